/- Of two valid responses' forms none begins the other; the responses whose forms follow each other. No walk. -/
import Derived.Test.YtpoejnajnaolpaaGreatDoorRsInj
namespace Go.Proofs.YtpoejnajnaolpaaGreatDoor
open Go.RowKit
open Go.Lib hiding intOf

theorem lineK_pre {r : RI} (h : rsFit r = true) (z : List UInt8) : lineK (rsLine r ++ z) = if r.kind ≤ 4 then 0 else r.kind.toNat := by
  have hk := ok_kind h
  have hc : r.kind = 1 ∨ r.kind = 2 ∨ r.kind = 3 ∨ r.kind = 4 ∨ r.kind = 5 ∨ r.kind = 6 ∨ r.kind = 7 ∨ r.kind = 8 ∨ r.kind = 9 ∨ r.kind = 10 := by omega
  rcases hc with e | e | e | e | e | e | e | e | e | e
  · have : rsLine r ++ z = [42, 32] ++ decDigits r.n ++ ([32] ++ rsWord 1 ++ z) := by unfold rsLine; simp [e]
    rw [this, lineK_dec, e]; rfl
  · have : rsLine r ++ z = [42, 32] ++ decDigits r.n ++ ([32] ++ rsWord 2 ++ z) := by unfold rsLine; simp [e]
    rw [this, lineK_dec, e]; rfl
  · have : rsLine r ++ z = [42, 32] ++ decDigits r.n ++ ([32] ++ rsWord 3 ++ z) := by unfold rsLine; simp [e]
    rw [this, lineK_dec, e]; rfl
  · have : rsLine r ++ z = [42, 32] ++ decDigits r.n ++ ([32, 70, 69, 84, 67, 72, 32, 40] ++ spL (rsParts r) ++ [41] ++ z) := by unfold rsLine; simp [e]
    rw [this, lineK_dec, e]; rfl
  · have : rsLine r ++ z = [42, 32, 70, 76, 65, 71, 83, 32] ++ (listL 31 ++ z) := by unfold rsLine; simp [e]
    rw [this, e]; rfl
  · have : rsLine r ++ z = [42, 32, 79, 75, 32] ++ (r.text ++ z) := by unfold rsLine rsPre; simp [e]
    rw [this, e]; rfl
  · have : rsLine r ++ z = [42, 32, 66, 89, 69, 32] ++ (r.text ++ z) := by unfold rsLine rsPre; simp [e]
    rw [this, e]; rfl
  · have : rsLine r ++ z = [42, 32, 66, 65, 68, 32] ++ (r.text ++ z) := by unfold rsLine rsPre; simp [e]
    rw [this, e]; rfl
  · have : rsLine r ++ z = r.tag ++ ([32] ++ rsStat r.status ++ [32] ++ r.text ++ z) := by unfold rsLine; simp [e]
    have ht : tgL r.tag = true := by
      unfold rsFit at h
      rw [if_neg (by omega), if_neg (by omega), if_neg (by omega), if_pos e] at h
      simp only [Bool.and_eq_true] at h
      exact h.1
    rw [this, e]
    cases hg : r.tag with
    | nil => rw [hg] at ht; cases ht
    | cons c l =>
      rw [hg] at ht
      simp only [tgL, List.isEmpty_cons, Bool.not_false, Bool.true_and, List.all_cons, Bool.and_eq_true] at ht
      have h1 : c ≠ 42 := by rintro rfl; have := ht.1; revert this; decide
      have h2 : c ≠ 43 := by rintro rfl; have := ht.1; revert this; decide
      simp [lineK, h1, h2]
  · have : rsLine r ++ z = [43, 32] ++ (r.text ++ z) := by unfold rsLine rsPre; simp [e]
    rw [this, e]; rfl

/-- A text, then the end of its line. -/
theorem ln_text {l m : List UInt8} (hl : txtL l = true) (hm : txtL m = true) {x y : List UInt8} (h : l ++ 13 :: x = m ++ 13 :: y) : l = m ∧ x = y := by
  have no : ∀ {l : List UInt8}, txtL l = true → ∀ c ∈ l, (c != 13) = true := by
    intro l hl c hc
    unfold txtL at hl
    rw [Bool.and_eq_true] at hl
    have := List.all_eq_true.1 hl.2 c hc
    rw [bne_iff_ne]
    rintro rfl
    revert this
    decide
  have tw : ∀ {l x : List UInt8}, txtL l = true → (l ++ 13 :: x).takeWhile (fun c => c != 13) = l := by
    intro l x hl
    rw [List.takeWhile_append_of_pos (no hl)]
    simp
  have e : l = m := by rw [← tw (x := x) hl, h, tw hm]
  subst e
  have := List.append_cancel_left h
  exact ⟨rfl, by injection this⟩
theorem fit_text {r : RI} (h : rsFit r = true) (h5 : 6 ≤ r.kind) : txtL r.text = true := by
  have hk := ok_kind h
  unfold rsFit at h
  rw [if_neg (by omega), if_neg (by omega), if_neg (by omega)] at h
  split at h
  · simp only [Bool.and_eq_true] at h
    exact h.2.1
  · rw [if_pos (by omega)] at h
    exact h

/-- NO FORM BEGINS ANOTHER. -/
theorem form_pre {r s : RI} (hr : rsOk r = true) (hs : rsOk s = true) {x0 y0 : List UInt8} (h : rsForm r ++ x0 = rsForm s ++ y0) : r = s := by
  obtain ⟨fr, or⟩ := ok_own hr
  obtain ⟨fs, os⟩ := ok_own hs
  have hl : rsLine r ++ 13 :: (10 :: x0) = rsLine s ++ 13 :: (10 :: y0) := by
    unfold rsForm at h
    simpa using h
  have hkr := ok_kind fr
  have hks := ok_kind fs
  have hK := lineK_pre fr (13 :: (10 :: x0))
  rw [hl, lineK_pre fs] at hK
  by_cases h4 : r.kind ≤ 4
  · have h4s : s.kind ≤ 4 := by
      rw [if_pos h4] at hK
      split at hK <;> omega
    clear hK
    have front : ∀ {q : RI} (z : List UInt8), 1 ≤ q.kind → q.kind ≤ 4 → ∃ x, rsLine q ++ 13 :: (10 :: z) = [42, 32] ++ (decDigits q.n ++ 32 :: x) ∧ (q.kind = 1 → x = [69, 88, 73, 83, 84, 83] ++ 13 :: (10 :: z)) ∧ (q.kind = 2 → x = [82, 69, 67, 69, 78, 84] ++ 13 :: (10 :: z)) ∧ (q.kind = 3 → x = [69, 88, 80, 85, 78, 71, 69] ++ 13 :: (10 :: z)) ∧ (q.kind = 4 → x = [70, 69, 84, 67, 72, 32, 40] ++ (spL (rsParts q) ++ 41 :: (13 :: (10 :: z)))) := by
      intro q z g1 g2
      have hc : q.kind = 1 ∨ q.kind = 2 ∨ q.kind = 3 ∨ q.kind = 4 := by omega
      rcases hc with e | e | e | e
      · exact ⟨[69, 88, 73, 83, 84, 83] ++ 13 :: (10 :: z), by unfold rsLine rsWord; simp [e], fun _ => rfl, fun h => by omega, fun h => by omega, fun h => by omega⟩
      · exact ⟨[82, 69, 67, 69, 78, 84] ++ 13 :: (10 :: z), by unfold rsLine rsWord; simp [e], fun h => by omega, fun _ => rfl, fun h => by omega, fun h => by omega⟩
      · exact ⟨[69, 88, 80, 85, 78, 71, 69] ++ 13 :: (10 :: z), by unfold rsLine rsWord; simp [e], fun h => by omega, fun h => by omega, fun _ => rfl, fun h => by omega⟩
      · exact ⟨[70, 69, 84, 67, 72, 32, 40] ++ (spL (rsParts q) ++ 41 :: (13 :: (10 :: z))), by unfold rsLine; simp [e], fun h => by omega, fun h => by omega, fun h => by omega, fun _ => rfl⟩
    obtain ⟨x, hx, x1, x2, x3, x4⟩ := front x0 hkr.1 h4
    obtain ⟨y, hy, y1, y2, y3, y4⟩ := front y0 hks.1 h4s
    rw [hx, hy] at hl
    obtain ⟨hn, hxy⟩ := dec_front_inj (by decide) (by decide) (List.append_cancel_left hl)
    have hxy : x = y := by injection hxy
    have cr : r.kind = 1 ∨ r.kind = 2 ∨ r.kind = 3 ∨ r.kind = 4 := by omega
    have cs : s.kind = 1 ∨ s.kind = 2 ∨ s.kind = 3 ∨ s.kind = 4 := by omega
    have hk : r.kind = s.kind := by
      rcases cr with e | e | e | e <;> rcases cs with g | g | g | g
      all_goals
        first
          | exact e.trans g.symm
          | (exfalso
             first
               | rw [x1 e] at hxy
               | rw [x2 e] at hxy
               | rw [x3 e] at hxy
               | rw [x4 e] at hxy
             first
               | rw [y1 g] at hxy
               | rw [y2 g] at hxy
               | rw [y3 g] at hxy
               | rw [y4 g] at hxy
             simp at hxy)
    by_cases e : r.kind = 4
    · have es : s.kind = 4 := hk ▸ e
      rw [x4 e, y4 es] at hxy
      have hp := parts_inj (fet_ne e fr) (fet_ne es fs) (parts_R r (fet_fit e fr).2) (parts_R s (fet_fit es fs).2) (List.append_cancel_left hxy)
      obtain ⟨p1, p2, p3, p4, p5⟩ := parts_fields (fet_fit e fr).1 (fet_fit es fs).1 (fet_fit e fr).2 (fet_fit es fs).2 hp
      rw [or, os]
      unfold rsOwn
      rw [if_neg (by omega), if_pos e, if_neg (by omega), if_pos es]
      unfold rsAmong
      rw [← p1, hk, hn]
      simp only [RI.mk.injEq, true_and]
      refine ⟨?_, ?_, ?_, ?_⟩
      · split
        · exact p2 ‹_›
        · rfl
      · split
        · exact p3 ‹_›
        · rfl
      · split
        · exact p4 ‹_›
        · rfl
      · split
        · exact p5 ‹_›
        · rfl
    · rw [or, os]
      unfold rsOwn
      rw [if_pos (by omega), if_pos (by omega), hk, hn]
  · have h4s : ¬ s.kind ≤ 4 := by
      rw [if_neg h4] at hK
      split at hK <;> omega
    have hk : r.kind = s.kind := by
      rw [if_neg h4, if_neg h4s] at hK
      omega
    rw [or, os, own_hi (by omega), own_hi (by omega), ← hk]
    rw [line_hi (by omega), line_hi (by omega), ← hk] at hl
    split
    · rfl
    · rename_i h5
      have tr := fit_text fr (by omega)
      have ts := fit_text fs (by omega)
      rw [if_neg h5, if_neg h5] at hl
      split
      · rename_i h9
        rw [if_pos h9, if_pos h9] at hl
        have gr : tgL r.tag = true ∧ (0 ≤ r.status ∧ r.status ≤ 2) := by
          unfold rsFit at fr
          rw [if_neg (by omega), if_neg (by omega), if_neg (by omega), if_pos h9] at fr
          simp only [Bool.and_eq_true, decide_eq_true_eq] at fr
          exact ⟨fr.1, fr.2.2⟩
        have gs : tgL s.tag = true ∧ (0 ≤ s.status ∧ s.status ≤ 2) := by
          unfold rsFit at fs
          rw [if_neg (by omega), if_neg (by omega), if_neg (by omega), if_pos (by omega)] at fs
          simp only [Bool.and_eq_true, decide_eq_true_eq] at fs
          exact ⟨fs.1, fs.2.2⟩
        simp only [List.append_assoc, List.cons_append, List.nil_append] at hl
        obtain ⟨g1, g2⟩ := sp_tag gr.1 gs.1 hl
        obtain ⟨g3, g4⟩ := stat_inj gr.2 gs.2 g2
        rw [g1, g3, (ln_text tr ts g4).1]
      · rename_i h9
        rw [if_neg h9, if_neg h9, List.append_assoc, List.append_assoc] at hl
        rw [(ln_text tr ts (List.append_cancel_left hl)).1]

/-- A valid response whose form begins here. -/
def RpAt (s : List UInt8) (r : RI) : Prop := RIok r ∧ rsOk r = true ∧ ∃ t, s = rsForm r ++ t
theorem RpAt.one {s : List UInt8} {r q : RI} (h : RpAt s r) (k : RpAt s q) : r = q := by
  obtain ⟨_, hr, t, rfl⟩ := h
  obtain ⟨_, hq, u, e⟩ := k
  exact form_pre hr hq e
theorem form_long (r : RI) : 2 ≤ (rsForm r).length := by
  unfold rsForm
  rw [List.length_append]
  simp only [List.length_cons, List.length_nil]
  omega
theorem RpAt.not_nil {r : RI} (h : RpAt [] r) : False := by
  obtain ⟨_, _, t, e⟩ := h
  have := congrArg List.length e
  have := form_long r
  simp at *
  omega
/-- As many responses as follow each other from here, and what is left. -/
inductive Rps : List UInt8 → List RI → List UInt8 → Prop
  | stop {s : List UInt8} : (∀ r, ¬ RpAt s r) → Rps s [] s
  | next {s t u : List UInt8} {r : RI} {l : List RI} : RIok r → rsOk r = true → s = rsForm r ++ t → Rps t l u → Rps s (r :: l) u
theorem Rps.det {s u v : List UInt8} {l m : List RI} (h : Rps s l u) (k : Rps s m v) : l = m ∧ u = v := by
  induction h generalizing m v with
  | stop hn =>
    cases k with
    | stop => exact ⟨rfl, rfl⟩
    | next hi hr e _ => exact absurd ⟨hi, hr, _, e⟩ (hn _)
  | next hi hr e _ ih =>
    cases k with
    | stop hn => exact absurd ⟨hi, hr, _, e⟩ (hn _)
    | next _ hq e2 k2 =>
      have hrq := form_pre hr hq (e.symm.trans e2)
      subst hrq
      have ht := List.append_cancel_left (e.symm.trans e2)
      subst ht
      obtain ⟨h1, h2⟩ := ih k2
      exact ⟨by rw [h1], h2⟩
/-- The forms of valid responses are read again as they were. -/
theorem rps_forms : ∀ l : List RI, (∀ r ∈ l, RIok r ∧ rsOk r = true) → Rps (l.flatMap rsForm) l []
  | [], _ => .stop fun _ h => h.not_nil
  | r :: l, h => .next (h r (by simp)).1 (h r (by simp)).2 (by rw [List.flatMap_cons]) (rps_forms l fun q hq => h q (by simp [hq]))
end Go.Proofs.YtpoejnajnaolpaaGreatDoor
