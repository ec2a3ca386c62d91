/- The forms of valid responses are different: what is read is what was written. No walk. -/
import Derived.Test.YtpoejnajnaolpaaGreatDoorGb
namespace Go.Proofs.YtpoejnajnaolpaaGreatDoor
open Go.RowKit
open Go.Lib hiding intOf

/-- A number, then a byte that is no digit. -/
theorem dec_front_inj {u v : Nat} {c d : UInt8} {x y : List UInt8} (hc : isDig c = false) (hd : isDig d = false) (h : decDigits u ++ c :: x = decDigits v ++ d :: y) : u = v ∧ c :: x = d :: y := by
  obtain ⟨a1, a2, _⟩ := dec_facts u
  obtain ⟨b1, b2, _⟩ := dec_facts v
  have hp : ∀ {l : List UInt8} {c : UInt8} {x : List UInt8}, l.all isDig = true → isDig c = false → (l ++ c :: x).takeWhile isDig = l ∧ (l ++ c :: x).dropWhile isDig = c :: x := by
    intro l c x hl hc
    induction l with
    | nil => simp [hc]
    | cons a l ih =>
      simp only [List.all_cons, Bool.and_eq_true] at hl
      obtain ⟨i1, i2⟩ := ih hl.2
      simp [hl.1, i1, i2]
  have e1 := hp (x := x) a1 hc
  have e2 := hp (x := y) b1 hd
  rw [h] at e1
  have hD : decDigits u = decDigits v := e1.1.symm.trans e2.1
  refine ⟨?_, e1.2.symm.trans e2.2⟩
  rw [← a2, ← b2, hD]

theorem list_pre : ∀ f g : Fin 32, (listL f.val).isPrefixOf (listL g.val) = true → f = g := by decide +kernel
theorem pre_or {a b x y : List UInt8} (h : a ++ x = b ++ y) : a.isPrefixOf b = true ∨ b.isPrefixOf a = true := by
  rcases List.append_eq_append_iff.1 h with ⟨z, h1, _⟩ | ⟨z, h1, _⟩
  · exact .inl (List.isPrefixOf_iff_prefix.2 ⟨z, h1.symm⟩)
  · exact .inr (List.isPrefixOf_iff_prefix.2 ⟨z, h1.symm⟩)
/-- A list of flags, then whatever. -/
theorem list_front_inj {f g : Nat} (hf : f ≤ 31) (hg : g ≤ 31) {x y : List UInt8} (h : listL f ++ x = listL g ++ y) : f = g ∧ x = y := by
  have e : f = g := by
    rcases pre_or h with h1 | h1
    · exact congrArg Fin.val (list_pre ⟨f, by omega⟩ ⟨g, by omega⟩ h1)
    · exact (congrArg Fin.val (list_pre ⟨g, by omega⟩ ⟨f, by omega⟩ h1)).symm
  subst e
  exact ⟨rfl, List.append_cancel_left h⟩
/-- A literal, then whatever. -/
theorem lit_front_inj {a b x y : List UInt8} (h : literalL a ++ x = literalL b ++ y) : a = b ∧ x = y := by
  have e : ∀ (l z : List UInt8), literalL l ++ z = 123 :: (decDigits l.length ++ 125 :: (13 :: 10 :: (l ++ z))) := by
    intro l z
    unfold literalL headL
    simp
  rw [e, e] at h
  injection h with _ h
  obtain ⟨h1, h2⟩ := dec_front_inj (by decide) (by decide) h
  simp only [List.cons.injEq, true_and] at h2
  exact List.append_inj h2 h1

/-- The end of a part: a space or a bracket. -/
def EndC (c : UInt8) : Prop := c = 32 ∨ c = 41
theorem EndC.nd {c : UInt8} (h : EndC c) : isDig c = false := by rcases h with rfl | rfl <;> decide
/-- A part that is one of the four. -/
inductive PartR : List UInt8 → Prop
  | f (g : Nat) : g ≤ 31 → PartR ([70, 76, 65, 71, 83, 32] ++ listL g)
  | u (n : Nat) : PartR ([85, 73, 68, 32] ++ decDigits n)
  | z (n : Nat) : PartR ([82, 70, 67, 56, 50, 50, 46, 83, 73, 90, 69, 32] ++ decDigits n)
  | b (l : List UInt8) : PartR ([66, 79, 68, 89, 91, 93, 32] ++ literalL l)
theorem part_inj {p q : List UInt8} (hp : PartR p) (hq : PartR q) {c d : UInt8} {x y : List UInt8} (hc : EndC c) (hd : EndC d) (h : p ++ c :: x = q ++ d :: y) : p = q ∧ c :: x = d :: y := by
  cases hp <;> cases hq
  case f.f g hg g' hg' =>
    rw [List.append_assoc, List.append_assoc] at h
    obtain ⟨h1, h2⟩ := list_front_inj hg hg' (List.append_cancel_left h)
    exact ⟨by rw [h1], h2⟩
  case u.u n m =>
    rw [List.append_assoc, List.append_assoc] at h
    obtain ⟨h1, h2⟩ := dec_front_inj hc.nd hd.nd (List.append_cancel_left h)
    exact ⟨by rw [h1], h2⟩
  case z.z n m =>
    rw [List.append_assoc, List.append_assoc] at h
    obtain ⟨h1, h2⟩ := dec_front_inj hc.nd hd.nd (List.append_cancel_left h)
    exact ⟨by rw [h1], h2⟩
  case b.b l m =>
    rw [List.append_assoc, List.append_assoc] at h
    obtain ⟨h1, h2⟩ := lit_front_inj (List.append_cancel_left h)
    exact ⟨by rw [h1], h2⟩
  all_goals simp at h
/-- Parts with a space between each two, then a bracket. -/
theorem parts_inj : ∀ {ps qs : List (List UInt8)}, ps ≠ [] → qs ≠ [] → (∀ p ∈ ps, PartR p) → (∀ q ∈ qs, PartR q) → ∀ {x y : List UInt8}, spL ps ++ 41 :: x = spL qs ++ 41 :: y → ps = qs
  | [], _, h, _, _, _, _, _, _ => absurd rfl h
  | _, [], _, h, _, _, _, _, _ => absurd rfl h
  | [p], [q], _, _, hp, hq, x, y, h => by
    rw [spL_one, spL_one] at h
    rw [(part_inj (hp p (by simp)) (hq q (by simp)) (.inr rfl) (.inr rfl) h).1]
  | [p], q :: q2 :: qs, _, _, hp, hq, x, y, h => by
    rw [spL_one, spL_cons, List.append_assoc] at h
    have := (part_inj (hp p (by simp)) (hq q (by simp)) (.inr rfl) (.inl rfl) h).2
    simp at this
  | p :: p2 :: ps, [q], _, _, hp, hq, x, y, h => by
    rw [spL_one, spL_cons, List.append_assoc] at h
    have := (part_inj (hp p (by simp)) (hq q (by simp)) (.inl rfl) (.inr rfl) h).2
    simp at this
  | p :: p2 :: ps, q :: q2 :: qs, _, _, hp, hq, x, y, h => by
    rw [spL_cons, spL_cons, List.append_assoc, List.append_assoc] at h
    obtain ⟨h1, h2⟩ := part_inj (hp p (by simp)) (hq q (by simp)) (.inl rfl) (.inl rfl) h
    have h2 : 32 :: (spL (p2 :: ps) ++ 41 :: x) = 32 :: (spL (q2 :: qs) ++ 41 :: y) := h2
    injection h2 with _ h2
    rw [h1, parts_inj (by simp) (by simp) (fun z hz => hp z (by simp [hz])) (fun z hz => hq z (by simp [hz])) h2]

theorem parts_R (r : RI) (hf : r.flags ≤ 31) : ∀ p ∈ rsParts r, PartR p := by
  intro p hp
  unfold rsParts at hp
  simp only [List.mem_append] at hp
  rcases hp with hp | hp | hp | hp
  all_goals
    split at hp
    · rw [List.mem_singleton] at hp
      subst hp
      first
        | exact .f _ hf
        | exact .u _
        | exact .z _
        | exact .b _
    · cases hp
theorem part_mem (r : RI) (c : UInt8) (p : List UInt8) (h : p ∈ rsParts r) (hc : p.head? = some c) :
    (c = 70 → rsBit r.items 1 = true ∧ p = [70, 76, 65, 71, 83, 32] ++ listL r.flags) ∧ (c = 85 → rsBit r.items 2 = true ∧ p = [85, 73, 68, 32] ++ decDigits r.uid) ∧
    (c = 82 → rsBit r.items 4 = true ∧ p = [82, 70, 67, 56, 50, 50, 46, 83, 73, 90, 69, 32] ++ decDigits r.size) ∧ (c = 66 → rsBit r.items 16 = true ∧ p = [66, 79, 68, 89, 91, 93, 32] ++ literalL r.body) := by
  unfold rsParts at h
  simp only [List.mem_append] at h
  rcases h with h | h | h | h
  all_goals
    split at h
    · rename_i hb
      rw [List.mem_singleton] at h
      subst h
      simp at hc
      subst hc
      refine ⟨fun e => ?_, fun e => ?_, fun e => ?_, fun e => ?_⟩ <;> first | exact ⟨hb, rfl⟩ | exact absurd e (by decide)
    · cases h
theorem mem_part (r : RI) : (rsBit r.items 1 = true → [70, 76, 65, 71, 83, 32] ++ listL r.flags ∈ rsParts r) ∧ (rsBit r.items 2 = true → [85, 73, 68, 32] ++ decDigits r.uid ∈ rsParts r) ∧
    (rsBit r.items 4 = true → [82, 70, 67, 56, 50, 50, 46, 83, 73, 90, 69, 32] ++ decDigits r.size ∈ rsParts r) ∧ (rsBit r.items 16 = true → [66, 79, 68, 89, 91, 93, 32] ++ literalL r.body ∈ rsParts r) := by
  unfold rsParts
  refine ⟨fun h => ?_, fun h => ?_, fun h => ?_, fun h => ?_⟩ <;> simp [h]
theorem dec_inj {u v : Nat} (h : decDigits u = decDigits v) : u = v := by
  rw [← (dec_facts u).2.1, ← (dec_facts v).2.1, h]
/-- The bits of items say which they are. -/
theorem items_bits : ∀ m n : Fin 32, rsBit (m.val : Int) 8 = false → rsBit (n.val : Int) 8 = false → rsBit (m.val : Int) 1 = rsBit (n.val : Int) 1 → rsBit (m.val : Int) 2 = rsBit (n.val : Int) 2 → rsBit (m.val : Int) 4 = rsBit (n.val : Int) 4 → rsBit (m.val : Int) 16 = rsBit (n.val : Int) 16 → m = n := by decide +kernel
theorem bool_iff {a b : Bool} (h1 : a = true → b = true) (h2 : b = true → a = true) : a = b := by
  cases a <;> cases b <;> simp_all
/-- The same parts: the same fields of the items. -/
theorem parts_fields {r s : RI} (hr : 1 ≤ r.items ∧ r.items ≤ 31 ∧ rsBit r.items 8 = false) (hs : 1 ≤ s.items ∧ s.items ≤ 31 ∧ rsBit s.items 8 = false) (hfr : r.flags ≤ 31) (hfs : s.flags ≤ 31) (h : rsParts r = rsParts s) :
    r.items = s.items ∧ (rsBit r.items 1 = true → r.flags = s.flags) ∧ (rsBit r.items 2 = true → r.uid = s.uid) ∧ (rsBit r.items 4 = true → r.size = s.size) ∧ (rsBit r.items 16 = true → r.body = s.body) := by
  obtain ⟨a1, a2, a4, a16⟩ := mem_part r
  obtain ⟨c1, c2, c4, c16⟩ := mem_part s
  have f1 := fun q => (part_mem s 70 _ (h ▸ a1 q) rfl).1 rfl
  have f2 := fun q => (part_mem s 85 _ (h ▸ a2 q) rfl).2.1 rfl
  have f4 := fun q => (part_mem s 82 _ (h ▸ a4 q) rfl).2.2.1 rfl
  have f16 := fun q => (part_mem s 66 _ (h ▸ a16 q) rfl).2.2.2 rfl
  have g1 := fun q => (part_mem r 70 _ (h.symm ▸ c1 q) rfl).1 rfl
  have g2 := fun q => (part_mem r 85 _ (h.symm ▸ c2 q) rfl).2.1 rfl
  have g4 := fun q => (part_mem r 82 _ (h.symm ▸ c4 q) rfl).2.2.1 rfl
  have g16 := fun q => (part_mem r 66 _ (h.symm ▸ c16 q) rfl).2.2.2 rfl
  refine ⟨?_, fun q => ?_, fun q => ?_, fun q => ?_, fun q => ?_⟩
  · obtain ⟨m, hm⟩ : ∃ m : Nat, r.items = m := ⟨r.items.toNat, by omega⟩
    obtain ⟨n, hn⟩ : ∃ n : Nat, s.items = n := ⟨s.items.toNat, by omega⟩
    rw [hm] at hr f1 f2 f4 f16 g1 g2 g4 g16 ⊢
    rw [hn] at hs f1 f2 f4 f16 g1 g2 g4 g16 ⊢
    have := items_bits ⟨m, by omega⟩ ⟨n, by omega⟩ hr.2.2 hs.2.2 (bool_iff (fun q => (f1 q).1) (fun q => (g1 q).1)) (bool_iff (fun q => (f2 q).1) (fun q => (g2 q).1)) (bool_iff (fun q => (f4 q).1) (fun q => (g4 q).1)) (bool_iff (fun q => (f16 q).1) (fun q => (g16 q).1))
    exact congrArg (fun z : Fin 32 => (z.val : Int)) this
  · have := List.append_cancel_left (f1 q).2
    exact (list_front_inj hfr hfs (x := []) (y := []) (by rw [this])).1
  · exact dec_inj (List.append_cancel_left (f2 q).2)
  · exact dec_inj (List.append_cancel_left (f4 q).2)
  · have := List.append_cancel_left (f16 q).2
    exact (lit_front_inj (x := []) (y := []) (by rw [this])).1

/-- Which kind a line is of, the first four apart. -/
def lineK (l : List UInt8) : Nat :=
  if l[0]? = some 43 then 10 else if l[0]? = some 42 then (if l[2]? = some 70 then 5 else if l[2]? = some 79 then 6 else if l[2]? = some 66 then (if l[3]? = some 89 then 7 else 8) else 0) else 9
theorem dec_cons (u : Nat) : ∃ c l, decDigits u = c :: l ∧ isDig c = true := by
  obtain ⟨h1, _, h3⟩ := dec_facts u
  cases hd : decDigits u with
  | nil => exact absurd hd h3
  | cons c l =>
    rw [hd] at h1
    simp only [List.all_cons, Bool.and_eq_true] at h1
    exact ⟨c, l, rfl, h1.1⟩
theorem lineK_dec (u : Nat) (x : List UInt8) : lineK ([42, 32] ++ decDigits u ++ x) = 0 := by
  obtain ⟨c, l, h, hc⟩ := dec_cons u
  rw [h]
  have h1 : c ≠ 70 := by rintro rfl; revert hc; decide
  have h2 : c ≠ 79 := by rintro rfl; revert hc; decide
  have h3 : c ≠ 66 := by rintro rfl; revert hc; decide
  simp [lineK, h1, h2, h3]
theorem ok_kind {r : RI} (h : rsFit r = true) : 1 ≤ r.kind ∧ r.kind ≤ 10 := by
  by_cases hk : 1 ≤ r.kind ∧ r.kind ≤ 10
  · exact hk
  · unfold rsFit at h
    rw [if_neg (by omega), if_neg (by omega), if_neg (by omega), if_neg (by omega), if_neg (by omega)] at h
    cases h
theorem lineK_is {r : RI} (h : rsFit r = true) : lineK (rsLine r) = if r.kind ≤ 4 then 0 else r.kind.toNat := by
  have hk := ok_kind h
  have hc : r.kind = 1 ∨ r.kind = 2 ∨ r.kind = 3 ∨ r.kind = 4 ∨ r.kind = 5 ∨ r.kind = 6 ∨ r.kind = 7 ∨ r.kind = 8 ∨ r.kind = 9 ∨ r.kind = 10 := by omega
  rcases hc with e | e | e | e | e | e | e | e | e | e
  · have : rsLine r = [42, 32] ++ decDigits r.n ++ ([32] ++ rsWord 1) := by unfold rsLine; simp [e]
    rw [this, lineK_dec, e]; rfl
  · have : rsLine r = [42, 32] ++ decDigits r.n ++ ([32] ++ rsWord 2) := by unfold rsLine; simp [e]
    rw [this, lineK_dec, e]; rfl
  · have : rsLine r = [42, 32] ++ decDigits r.n ++ ([32] ++ rsWord 3) := by unfold rsLine; simp [e]
    rw [this, lineK_dec, e]; rfl
  · have : rsLine r = [42, 32] ++ decDigits r.n ++ ([32, 70, 69, 84, 67, 72, 32, 40] ++ spL (rsParts r) ++ [41]) := by unfold rsLine; simp [e]
    rw [this, lineK_dec, e]; rfl
  · have : rsLine r = [42, 32, 70, 76, 65, 71, 83, 32] ++ listL 31 := by unfold rsLine; simp [e]
    rw [this, e]; rfl
  · have : rsLine r = [42, 32, 79, 75, 32] ++ r.text := by unfold rsLine rsPre; simp [e]
    rw [this, e]; rfl
  · have : rsLine r = [42, 32, 66, 89, 69, 32] ++ r.text := by unfold rsLine rsPre; simp [e]
    rw [this, e]; rfl
  · have : rsLine r = [42, 32, 66, 65, 68, 32] ++ r.text := by unfold rsLine rsPre; simp [e]
    rw [this, e]; rfl
  · have : rsLine r = r.tag ++ ([32] ++ rsStat r.status ++ [32] ++ r.text) := by unfold rsLine; simp [e]
    have ht : tgL r.tag = true := by
      unfold rsFit at h
      rw [if_neg (by omega), if_neg (by omega), if_neg (by omega), if_pos e] at h
      simp only [Bool.and_eq_true] at h
      exact h.1
    rw [this, e]
    cases hg : r.tag with
    | nil => rw [hg] at ht; cases ht
    | cons c l =>
      rw [hg] at ht
      simp only [tgL, List.isEmpty_cons, Bool.not_false, Bool.true_and, List.all_cons, Bool.and_eq_true] at ht
      have h1 : c ≠ 42 := by rintro rfl; have := ht.1; revert this; decide
      have h2 : c ≠ 43 := by rintro rfl; have := ht.1; revert this; decide
      simp [lineK, h1, h2]
  · have : rsLine r = [43, 32] ++ r.text := by unfold rsLine rsPre; simp [e]
    rw [this, e]; rfl

theorem ok_own {r : RI} (h : rsOk r = true) : rsFit r = true ∧ r = rsOwn r := by
  unfold rsOk at h
  rw [Bool.and_eq_true] at h
  exact ⟨h.1, (rsSame_iff _ _).1 h.2⟩
theorem sp_tag {l m : List UInt8} (hl : tgL l = true) (hm : tgL m = true) {x y : List UInt8} (h : l ++ 32 :: x = m ++ 32 :: y) : l = m ∧ x = y := by
  have no : ∀ {l : List UInt8}, tgL l = true → ∀ c ∈ l, (c != 32) = true := by
    intro l hl c hc
    unfold tgL at hl
    rw [Bool.and_eq_true] at hl
    have := List.all_eq_true.1 hl.2 c hc
    rw [bne_iff_ne]
    rintro rfl
    revert this
    decide
  have tw : ∀ {l x : List UInt8}, tgL l = true → (l ++ 32 :: x).takeWhile (fun c => c != 32) = l := by
    intro l x hl
    rw [List.takeWhile_append_of_pos (no hl)]
    simp
  have e : l = m := by rw [← tw (x := x) hl, h, tw hm]
  subst e
  have := List.append_cancel_left h
  exact ⟨rfl, by injection this⟩
theorem stat_inj {a b : Int} (ha : 0 ≤ a ∧ a ≤ 2) (hb : 0 ≤ b ∧ b ≤ 2) {x y : List UInt8} (h : rsStat a ++ 32 :: x = rsStat b ++ 32 :: y) : a = b ∧ x = y := by
  have h1 : a = 0 ∨ a = 1 ∨ a = 2 := by omega
  have h2 : b = 0 ∨ b = 1 ∨ b = 2 := by omega
  rcases h1 with rfl | rfl | rfl <;> rcases h2 with rfl | rfl | rfl <;> simp [rsStat] at h <;> first | exact ⟨rfl, h⟩ | cases h
theorem fet_fit {r : RI} (e : r.kind = 4) (h : rsFit r = true) : (1 ≤ r.items ∧ r.items ≤ 31 ∧ rsBit r.items 8 = false) ∧ r.flags ≤ 31 := by
  unfold rsFit at h
  rw [if_neg (by omega), if_pos e] at h
  simp only [Bool.and_eq_true, decide_eq_true_eq] at h
  exact ⟨h.1, h.2.1⟩
theorem fet_ne {r : RI} (e : r.kind = 4) (h : rsFit r = true) : rsParts r ≠ [] := by
  obtain ⟨⟨h1, h2, h3⟩, -⟩ := fet_fit e h
  have key : ∀ n : Fin 32, 1 ≤ n.val → rsBit (n.val : Int) 8 = false → rsBit (n.val : Int) 1 = true ∨ rsBit (n.val : Int) 2 = true ∨ rsBit (n.val : Int) 4 = true ∨ rsBit (n.val : Int) 16 = true := by decide +kernel
  obtain ⟨m, hm⟩ : ∃ m : Nat, r.items = m := ⟨r.items.toNat, by omega⟩
  rw [hm] at h1 h2 h3
  have := key ⟨m, by omega⟩ (by show 1 ≤ m; omega) h3
  unfold rsParts
  rw [hm]
  rcases this with e | e | e | e <;> (replace e : rsBit (m : Int) _ = true := e) <;> simp [e]
theorem own_hi {r : RI} (h : 5 ≤ r.kind) : rsOwn r = if r.kind = 5 then ⟨r.kind, 0, [], 0, [], 0, 0, 0, 0, []⟩ else if r.kind = 9 then ⟨9, 0, r.tag, r.status, r.text, 0, 0, 0, 0, []⟩ else ⟨r.kind, 0, [], 0, r.text, 0, 0, 0, 0, []⟩ := by
  unfold rsOwn
  rw [if_neg (by omega), if_neg (by omega)]
theorem line_hi {r : RI} (h : 5 ≤ r.kind) : rsLine r = if r.kind = 5 then [42, 32, 70, 76, 65, 71, 83, 32] ++ listL 31 else if r.kind = 9 then r.tag ++ [32] ++ rsStat r.status ++ [32] ++ r.text else rsPre r.kind ++ r.text := by
  unfold rsLine
  rw [if_neg (by omega), if_neg (by omega)]
/-- WHAT IS WRITTEN SAYS WHAT IT WAS. -/
theorem form_inj {r s : RI} (hr : rsOk r = true) (hs : rsOk s = true) (h : rsForm r = rsForm s) : r = s := by
  obtain ⟨fr, or⟩ := ok_own hr
  obtain ⟨fs, os⟩ := ok_own hs
  have hl : rsLine r = rsLine s := List.append_cancel_right h
  have hkr := ok_kind fr
  have hks := ok_kind fs
  have hK := lineK_is fr
  rw [hl, lineK_is fs] at hK
  by_cases h4 : r.kind ≤ 4
  · have h4s : s.kind ≤ 4 := by
      rw [if_pos h4] at hK
      split at hK <;> omega
    clear hK
    have front : ∀ {q : RI}, 1 ≤ q.kind → q.kind ≤ 4 → ∃ x, rsLine q = [42, 32] ++ (decDigits q.n ++ 32 :: x) ∧ (q.kind = 1 → x = [69, 88, 73, 83, 84, 83]) ∧ (q.kind = 2 → x = [82, 69, 67, 69, 78, 84]) ∧ (q.kind = 3 → x = [69, 88, 80, 85, 78, 71, 69]) ∧ (q.kind = 4 → x = [70, 69, 84, 67, 72, 32, 40] ++ (spL (rsParts q) ++ 41 :: [])) := by
      intro q g1 g2
      have hc : q.kind = 1 ∨ q.kind = 2 ∨ q.kind = 3 ∨ q.kind = 4 := by omega
      rcases hc with e | e | e | e
      · exact ⟨_, by unfold rsLine rsWord; simp [e], fun _ => rfl, fun h => by omega, fun h => by omega, fun h => by omega⟩
      · exact ⟨_, by unfold rsLine rsWord; simp [e], fun h => by omega, fun _ => rfl, fun h => by omega, fun h => by omega⟩
      · exact ⟨_, by unfold rsLine rsWord; simp [e], fun h => by omega, fun h => by omega, fun _ => rfl, fun h => by omega⟩
      · exact ⟨_, by unfold rsLine; simp [e], fun h => by omega, fun h => by omega, fun h => by omega, fun _ => rfl⟩
    obtain ⟨x, hx, x1, x2, x3, x4⟩ := front hkr.1 h4
    obtain ⟨y, hy, y1, y2, y3, y4⟩ := front hks.1 h4s
    rw [hx, hy] at hl
    obtain ⟨hn, hxy⟩ := dec_front_inj (by decide) (by decide) (List.append_cancel_left hl)
    have hxy : x = y := by injection hxy
    have cr : r.kind = 1 ∨ r.kind = 2 ∨ r.kind = 3 ∨ r.kind = 4 := by omega
    have cs : s.kind = 1 ∨ s.kind = 2 ∨ s.kind = 3 ∨ s.kind = 4 := by omega
    have hk : r.kind = s.kind := by
      rcases cr with e | e | e | e <;> rcases cs with g | g | g | g
      all_goals
        first
          | exact e.trans g.symm
          | (exfalso
             first
               | rw [x1 e] at hxy
               | rw [x2 e] at hxy
               | rw [x3 e] at hxy
               | rw [x4 e] at hxy
             first
               | rw [y1 g] at hxy
               | rw [y2 g] at hxy
               | rw [y3 g] at hxy
               | rw [y4 g] at hxy
             simp at hxy)
    by_cases e : r.kind = 4
    · have es : s.kind = 4 := hk ▸ e
      rw [x4 e, y4 es] at hxy
      have hp := parts_inj (fet_ne e fr) (fet_ne es fs) (parts_R r (fet_fit e fr).2) (parts_R s (fet_fit es fs).2) (List.append_cancel_left hxy)
      obtain ⟨p1, p2, p3, p4, p5⟩ := parts_fields (fet_fit e fr).1 (fet_fit es fs).1 (fet_fit e fr).2 (fet_fit es fs).2 hp
      rw [or, os]
      unfold rsOwn
      rw [if_neg (by omega), if_pos e, if_neg (by omega), if_pos es]
      unfold rsAmong
      rw [← p1, hk, hn]
      simp only [RI.mk.injEq, true_and]
      refine ⟨?_, ?_, ?_, ?_⟩
      · split
        · exact p2 ‹_›
        · rfl
      · split
        · exact p3 ‹_›
        · rfl
      · split
        · exact p4 ‹_›
        · rfl
      · split
        · exact p5 ‹_›
        · rfl
    · rw [or, os]
      unfold rsOwn
      rw [if_pos (by omega), if_pos (by omega), hk, hn]
  · have h4s : ¬ s.kind ≤ 4 := by
      rw [if_neg h4] at hK
      split at hK <;> omega
    have hk : r.kind = s.kind := by
      rw [if_neg h4, if_neg h4s] at hK
      omega
    rw [or, os, own_hi (by omega), own_hi (by omega), ← hk]
    rw [line_hi (by omega), line_hi (by omega), ← hk] at hl
    split
    · rfl
    · rename_i h5
      rw [if_neg h5, if_neg h5] at hl
      split
      · rename_i h9
        rw [if_pos h9, if_pos h9] at hl
        have tr : tgL r.tag = true ∧ (0 ≤ r.status ∧ r.status ≤ 2) := by
          unfold rsFit at fr
          rw [if_neg (by omega), if_neg (by omega), if_neg (by omega), if_pos h9] at fr
          simp only [Bool.and_eq_true, decide_eq_true_eq] at fr
          exact ⟨fr.1, fr.2.2⟩
        have ts : tgL s.tag = true ∧ (0 ≤ s.status ∧ s.status ≤ 2) := by
          unfold rsFit at fs
          rw [if_neg (by omega), if_neg (by omega), if_neg (by omega), if_pos (by omega)] at fs
          simp only [Bool.and_eq_true, decide_eq_true_eq] at fs
          exact ⟨fs.1, fs.2.2⟩
        simp only [List.append_assoc, List.cons_append, List.nil_append] at hl
        obtain ⟨g1, g2⟩ := sp_tag tr.1 ts.1 hl
        obtain ⟨g3, g4⟩ := stat_inj tr.2 ts.2 g2
        rw [g1, g3, g4]
      · rename_i h9
        rw [if_neg h9, if_neg h9] at hl
        rw [List.append_cancel_left hl]
end Go.Proofs.YtpoejnajnaolpaaGreatDoor
