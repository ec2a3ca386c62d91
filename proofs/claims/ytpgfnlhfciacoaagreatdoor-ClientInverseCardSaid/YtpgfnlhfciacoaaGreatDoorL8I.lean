/- The law ClientInverse, at all lists of commands. -/
import Derived.Test.YtpgfnlhfciacoaaGreatDoorKh
import Derived.Test.YtpgfnlhfciacoaaGreatDoorKg
import Derived.Test.YtpgfnlhfciacoaaGreatDoorKf
import Derived.Test.YtpgfnlhfciacoaaGreatDoorRef08T
import Derived.Test.YtpgfnlhfciacoaaGreatDoorRdStr
import Derived.Test.YtpgfnlhfciacoaaGreatDoorSameM
import Derived.Test.YtpgfnlhfciacoaaGreatDoorEqB
import Derived.Test.YtpgfnlhfciacoaaGreatDoorHe
namespace Go.Proofs.YtpgfnlhfciacoaaGreatDoor
open Go.RowKit

/-- A text of few parts is short. -/
theorem few_text_len2 {a : CI} (hw : fewC a = true) (hv : validC a = true) (f0 : 0 ≤ a.flags) (hb : ∀ r ∈ a.set, r.1 ≤ 4294967295 ∧ r.2 ≤ 4294967295) : (textT a).length ≤ 8998 := by
  obtain ⟨lt, lm, ls, ld⟩ := fewC_all hw
  obtain ⟨v1, v2, v3, v4, v5, v6⟩ := validC_int hv
  have f1 := (validC_bd hv).2.2
  have h1 := verbZ_len a.kind
  have h2 := mboxT_len (b := a.mbox) (by omega)
  have h3 := printL_len8 hb
  have h4 := lit_len8 (b := a.data) (by omega)
  have h5 := listL_len8 (f := a.flags.toNat) (by omega)
  have h6 := itemsT_len8 (f := a.items.toNat) (by omega)
  have h7 := modeT_len8 a.mode.toNat a.silent
  unfold textT restT
  simp only [List.length_append, List.length_cons]
  repeat' split
  all_goals (simp only [List.length_append, List.length_cons, List.length_nil]; omega)
theorem step_two {R R' : List UInt8} {k k' : Nat} {f : Fr} (h : stepF R k = some (f, R', k')) (h2 : f.kind = 2) : f.data = [] := by
  unfold stepF at h
  cases he : endOf R k with
  | none => rw [he] at h; cases h
  | some e =>
    rw [he] at h
    simp only at h
    split at h
    · injection h with h; injection h with h _; rw [← h] at h2; cases h2
    · split at h
      · injection h with h; injection h with h _; rw [← h] at h2; cases h2
      · split at h
        · injection h with h; injection h with h _; rw [← h] at h2; cases h2
        · injection h with h; injection h with h _; rw [← h]
theorem runs_two {R R' : List UInt8} {k k' : Nat} {fs : List Fr} (h : Runs R k fs R' k') : ∀ f ∈ fs, f.kind = 2 → f.data = [] := by
  induction h with
  | nil => intro f hf; cases hf
  | cons hs _ ih =>
    intro f hf h2
    rcases List.mem_cons.1 hf with rfl | hf
    · exact step_two hs h2
    · exact ih f hf h2
/-- The frames of what is sent are short. -/
theorem sent_fr {T : List UInt8} {j : Nat} (h : Sent T j) (hT : T.length ≤ 9000) : ∃ fs, Runs (T ++ [13, 10]) 0 fs [] 0 ∧ ∀ f ∈ fs, f.data.length ≤ 9000 := by
  obtain ⟨fs, h1, _⟩ := h
  refine ⟨_, h1, fun f hf => ?_⟩
  rcases List.mem_append.1 hf with hf2 | hf2
  · rw [runs_two h1 f hf (all_two h1 (by simp) f hf2)]
    simp
  · obtain rfl := List.mem_singleton.1 hf2
    exact hT
theorem str_fr (xs : List CX) (h : ∀ x ∈ xs, okX x) (hT : ∀ x ∈ xs, (textT x.c).length ≤ 8998) : ∃ fs, Runs (strT xs) 0 fs [] 0 ∧ (∀ f ∈ fs, f.data.length ≤ 9000) ∧ (strT xs).length ≤ 9000 * xs.length := by
  induction xs with
  | nil => exact ⟨[], .nil _ _, (fun f hf => by cases hf), by simp [strT]⟩
  | cons x xs ih =>
    obtain ⟨fs, h1, h2, h3⟩ := ih (fun y hy => h y (List.mem_cons_of_mem _ hy)) (fun y hy => hT y (List.mem_cons_of_mem _ hy))
    obtain ⟨hv, j, hj⟩ := h x (List.mem_cons_self ..)
    have hx := hT x (List.mem_cons_self ..)
    obtain ⟨gs, h4, h5⟩ := sent_fr hj (by omega)
    refine ⟨gs ++ fs, h4.two h1, fun f hf => ?_, ?_⟩
    · rcases List.mem_append.1 hf with hf | hf
      · exact h5 f hf
      · exact h2 f hf
    · have e : strT (x :: xs) = lineT x ++ strT xs := rfl
      rw [e, List.length_append, List.length_cons]
      unfold lineT
      rw [List.length_append]
      simp only [List.length_cons, List.length_nil]
      omega
/-- What is known of few commands that can be sent. -/
theorem inv_facts (xs : List CX) (h : ∀ x ∈ xs, okX x) (hf : ∀ x ∈ xs, 0 ≤ x.c.flags) (hb : ∀ x ∈ xs, ∀ r ∈ x.c.set, r.1 ≤ 4294967295 ∧ r.2 ≤ 4294967295) (hw : ∀ x ∈ xs, fewC x.c = true) (hn : xs.length ≤ 30) :
    (strT xs).length ≤ 1000000 ∧ Short (strT xs) ∧ (∀ fs R d, Runs (strT xs) 0 fs R d → Done R d → ∀ f ∈ fs, f.data.length ≤ 9000) ∧
    ∀ e w w', CrPost (strT xs) w e w' → ∃ ys A c, ys.map (fun (x : CX) => x.c) = xs.map (fun x => x.c) ∧ e = .returned (.tuple #[.slice A ys.length c, .bool true]) ∧ XsAt w' A ys ∧ Below w.heap.size w w' := by
  obtain ⟨fs, h1, h2, h3⟩ := str_fr xs h (fun x hx => few_text_len2 (hw x hx) (h x hx).1 (hf x hx) (hb x hx))
  obtain ⟨gs, g1, g2⟩ := str_rd xs h hf hb
  have d0 : Done ([] : List UInt8) 0 := endOf_past (by simp)
  refine ⟨by omega, fun fs' R k hr he => ?_, fun fs' R d hr hd => ?_, fun e w w' hc => ?_⟩
  · obtain ⟨_, rfl, _⟩ := hr.det he h1 d0
    simp
  · obtain ⟨rfl, _, _⟩ := hr.det hd h1 d0
    exact h2
  · obtain ⟨fs', R, d, hr, hd, hcase⟩ := hc
    obtain ⟨rfl, rfl, _⟩ := hr.det hd g1 d0
    rcases hcase with ⟨_, ys, cs, A, c, q1, q2, q3, q4, q5⟩ | ⟨hbad, _, _⟩
    · obtain rfl := q1.det g2
      exact ⟨ys, A, c, by rw [q2, str_back xs h hf hb], q3, q4, q5⟩
    · rcases hbad with hbad | hbad
      · simp at hbad
      · exact absurd hbad g2.notBad

set_option maxRecDepth 100000 in
set_option maxHeartbeats 4000000 in
theorem clientInverse_any (A : Option Addr) (c : Nat) (xs : List CX) (hl : xs.length ≤ maxLen) (ok : ∀ x ∈ xs, CIok x.c) (w : World) (he : EnvB w.heap.size w) (hS : XsAt w A xs) :
    Calls Tryz.prog 4 #[.slice A xs.length c] w fun e w' => e = .returned (.bool true) ∧ Below w.heap.size w w' := by
  have AL := Lib.hid (fun W (hW : Below w.heap.size w W) => alive8_any W ((he.below hW).mono hW.size))
  have FW := Lib.hid (rfewXs_any xs A c _ rfl hl w hS)
  cases hfw : fewXs xs with
  | false =>
    rw [hfw] at FW
    clear hfw he hS ok hl
    generalize xs.length = n at *
    go_enter Tryz.func4, Tryz.ntmps4
    go_wp2_with fail
    refine FW.out.mono ?_
    rintro e w1 ⟨rfl, hb1⟩
    go_wp2_with fail
    refine (AL.out _ hb1).mono ?_
    rintro e w2 ⟨rfl, hb2⟩
    go_wp2_with fail
    go_ret
    exact ⟨rfl, below_next hb1 hb2⟩
  | true =>
    rw [hfw] at FW
    have hfx := hfw
    unfold fewXs at hfx
    rw [Bool.and_eq_true, List.all_eq_true] at hfx
    obtain ⟨hfe, hf30⟩ := hfx
    have hn30 : xs.length ≤ 30 := by simpa using hf30
    have hsm : ∀ x ∈ xs, SmallX x := fun x hx => by
      obtain ⟨a1, a2, a3, a4⟩ := fewC_all (hfe x hx)
      exact ⟨(ok x hx).flags, (ok x hx).ranges, by omega, by omega, by omega, by omega⟩
    have hbd : ∀ x ∈ xs, x.c.set.length ≤ 1000000 ∧ x.c.data.length ≤ 1000000 := fun x hx => by
      have := fewC_bd (hfe x hx)
      omega
    have HIF := Lib.hid (fun (h : ∀ x ∈ xs, okX x) => inv_facts xs h (fun x hx => (ok x hx).flags.1) (fun x hx => (ok x hx).ranges) hfe hn30)
    obtain ⟨n, hn⟩ : ∃ n, xs.length = n := ⟨_, rfl⟩
    have HN := Lib.hid hn
    rw [hn] at FW hn30 ⊢
    have HE := Lib.hid he
    have HS := Lib.hid hS
    have HBD := Lib.hid hbd
    have PS := Lib.hid (fun W (hW : Below w.heap.size w W) => cstream_any xs A c n HN.out (by omega) hsm W ((he.below hW).mono hW.size) (hS.below hW))
    have RS := Lib.hid (fun W (hW : Below w.heap.size w W) => rstream_any xs A c n HN.out (by omega) hsm W (hS.below hW))
    clear hfw hfe hf30 hsm hbd he hS ok hl hn
    go_enter Tryz.func4, Tryz.ntmps4
    go_wp2_with fail
    refine FW.out.mono ?_
    rintro e w1 ⟨rfl, hb1⟩
    have HB1 := Lib.hid hb1
    clear hb1 FW
    go_wp2_with fail
    refine (PS.out _ HB1.out).mono ?_
    intro e w2 h2
    have hb2 : Below w1.heap.size w1 w2 := by rcases h2 with ⟨_, _, _, _, _, h⟩ | ⟨_, _, h⟩ <;> exact h
    have HB2 := Lib.hid (below_next HB1.out hb2)
    have RS2 := Lib.hid (RS.out _ HB2.out)
    obtain ⟨B, d, q, l, rfl, by1, hcase⟩ : ∃ B d q l, e = .returned (.tuple #[.slice B l.length d, .bool q]) ∧ ByAt w2.heap.size w2 B d l ∧ ((q = true ∧ l = strT xs ∧ ∀ x ∈ xs, okX x) ∨ (q = false ∧ l = [] ∧ ¬ ∀ x ∈ xs, okX x)) := by
      rcases h2 with ⟨hv, B, d, he, hy, _⟩ | ⟨hno, he, _⟩
      · exact ⟨B, d, true, _, he, hy, .inl ⟨rfl, rfl, hv⟩⟩
      · exact ⟨none, 0, false, [], he, ⟨Nat.le_refl _, .inl rfl⟩, .inr ⟨rfl, rfl, hno⟩⟩
    have hl9 : l.length ≤ 1000000 := by
      rcases hcase with ⟨_, rfl, hv⟩ | ⟨_, rfl, _⟩
      · exact (HIF.out hv).1
      · simp
    have BY1 := Lib.hid by1
    have HC := Lib.hid hcase
    obtain ⟨m, hm⟩ : ∃ m, l.length = m := ⟨_, rfl⟩
    rw [hm] at hl9 ⊢
    have HM := Lib.hid hm
    clear h2 hb2 by1 hcase hm HB1 PS RS
    go_wp2_with fail
    refine RS2.out.mono ?_
    intro e w3 h3
    have hb3 : Below w2.heap.size w2 w3 := by rcases h3 with ⟨_, _, _, _, _, h⟩ | ⟨_, _, h⟩ <;> exact h
    obtain ⟨C, f, rfl, by2⟩ : ∃ C f, e = .returned (.tuple #[.slice C m f, .bool q]) ∧ ByAt w3.heap.size w3 C f l := by
      rcases h3 with ⟨hv, C, f, he, hy, _⟩ | ⟨hno, he, _⟩
      · rcases HC.out with ⟨rfl, rfl, _⟩ | ⟨_, _, hno⟩
        · exact ⟨C, f, by rw [he, HM.out], hy⟩
        · exact absurd hv hno
      · rcases HC.out with ⟨_, _, hv⟩ | ⟨rfl, rfl, _⟩
        · exact absurd hv hno
        · exact ⟨none, 0, by rw [he, ← HM.out]; rfl, ⟨Nat.le_refl _, .inl rfl⟩⟩
    have HB3 := Lib.hid (below_next HB2.out hb3)
    have BY3 := Lib.hid ((BY1.out.below hb3).mono hb3.size)
    have EQ := Lib.hid (equalB_any _ _ B C d f m m l l HM.out HM.out (by omega) (by omega) w3 BY3.out by2)
    rw [show decide (l = l) = true by simp] at EQ
    clear h3 hb3 by2 BY1 HB2 RS2
    go_wp2_with fail
    refine EQ.out.mono ?_
    rintro e w4 ⟨rfl, hb4⟩
    have HB4 := Lib.hid (below_next HB3.out hb4)
    have BY4 := Lib.hid ((BY3.out.below hb4).mono hb4.size)
    clear hb4 EQ BY3 HB3
    cases q with
    | false =>
      go_wp2_with fail
      refine (AL.out _ HB4.out).mono ?_
      rintro e w5 ⟨rfl, hb5⟩
      go_wp2_with fail
      go_ret
      exact ⟨rfl, below_next HB4.out hb5⟩
    | true =>
      have hq : l = strT xs ∧ ∀ x ∈ xs, okX x := by
        rcases HC.out with ⟨_, h1, h2⟩ | ⟨h1, _⟩
        · exact ⟨h1, h2⟩
        · cases h1
      obtain ⟨i1, i2, i3, i4⟩ := HIF.out hq.2
      have RD := Lib.hid (cread_any w4.heap.size d m B l HM.out (by omega) (by rw [hq.1]; exact i2) (by rw [hq.1]; exact i3) w4 ((HE.out.below HB4.out).mono HB4.out.size) BY4.out)
      have I4 := Lib.hid (fun e w w' (h : CrPost l w e w') => i4 e w w' (by rw [← hq.1]; exact h))
      clear hq i1 i2 i3 i4 HC HIF
      go_wp2_with fail
      refine RD.out.mono ?_
      intro e w5 h5
      obtain ⟨ys, A5, c5, hmap, rfl, hX5, hb5⟩ := I4.out e w4 w5 h5
      have HB5 := Lib.hid (below_next HB4.out hb5)
      have HMAP := Lib.hid hmap
      have hyl : ys.length = n := by
        have h := congrArg List.length hmap
        rw [List.length_map, List.length_map] at h
        rw [h]; exact HN.out
      have HYL := Lib.hid hyl
      have HX5 := Lib.hid hX5
      have HBY : Hid (∀ y ∈ ys, y.c.set.length ≤ 1000000 ∧ y.c.data.length ≤ 1000000) := Lib.hid (fun y hy => by
        have h1 : y.c ∈ ys.map (fun (x : CX) => x.c) := List.mem_map.2 ⟨y, hy, rfl⟩
        rw [hmap] at h1
        obtain ⟨x, hx, hxe⟩ := List.mem_map.1 h1
        rw [← hxe]
        exact HBD.out x hx)
      rw [hyl]
      clear h5 hmap hyl hX5 hb5 RD I4
      go_wp2_with fail
      refine (AL.out _ HB5.out).mono ?_
      rintro e w6 ⟨rfl, hb6⟩
      have HB6 := Lib.hid (below_next HB5.out hb6)
      have SM := Lib.hid (rsameXs_any ys xs A5 A c5 c n n HYL.out HN.out (by omega) (by omega) HBY.out HBD.out w6 (HX5.out.below hb6) (HS.out.below HB6.out))
      rw [sameXs_map HMAP.out] at SM
      clear hb6 HX5 HB5
      go_wp2_with fail
      refine SM.out.mono ?_
      rintro e w7 ⟨rfl, hb7⟩
      go_wp2_with fail
      go_ret
      exact ⟨rfl, below_next HB6.out hb7⟩
end Go.Proofs.YtpgfnlhfciacoaaGreatDoor
