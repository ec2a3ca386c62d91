/- What the reference of layer 10 guesses: it is what was written. No walk. -/
import Derived.Test.YtpoejnajnaolpaaGreatDoorRpGuess
namespace Go.Proofs.YtpoejnajnaolpaaGreatDoor
open Go.RowKit
open Go.Lib hiding intOf

def wordT (s : List UInt8) : List UInt8 × List UInt8 := (s.takeWhile (· != 32), (s.dropWhile (· != 32)).drop 1)
theorem wordT_sp {l : List UInt8} (h : ∀ c ∈ l, (c != 32) = true) (x : List UInt8) : wordT (l ++ 32 :: x) = (l, x) := by
  unfold wordT
  rw [List.takeWhile_append_of_pos h, List.dropWhile_append_of_pos h]
  simp
def lineA : List UInt8 → Option (List UInt8)
  | [] => none
  | c :: s => if c = 13 ∧ s.head? = some 10 then some [] else (lineA s).map (c :: ·)
def lineT (s : List UInt8) : List UInt8 := (lineA s).getD []
theorem lineA_txt {l : List UInt8} (h : ∀ c ∈ l, c ≠ 13) (t : List UInt8) : lineA (l ++ 13 :: 10 :: t) = some l := by
  induction l with
  | nil => simp [lineA]
  | cons c l ih =>
    rw [List.cons_append, lineA, if_neg (fun e => h c (by simp) e.1), ih (fun y hy => h y (by simp [hy]))]
    rfl
theorem lineT_txt {l : List UInt8} (h : ∀ c ∈ l, c ≠ 13) (t : List UInt8) : lineT (l ++ 13 :: 10 :: t) = l := by
  unfold lineT
  rw [lineA_txt h]
  rfl
theorem lineT_head (s : List UInt8) : lineT (70 :: s) = [] ∨ ∃ x, lineT (70 :: s) = 70 :: x := by
  unfold lineT
  rw [lineA, if_neg (by simp)]
  cases lineA s with
  | none => exact .inl rfl
  | some x => exact .inr ⟨x, rfl⟩
theorem txt_13 {l : List UInt8} (h : txtL l = true) : ∀ c ∈ l, c ≠ 13 := by
  intro c hc
  unfold txtL at h
  rw [Bool.and_eq_true] at h
  have := List.all_eq_true.1 h.2 c hc
  rintro rfl
  revert this
  decide
theorem tag_32 {l : List UInt8} (h : tgL l = true) : (∀ c ∈ l, (c != 32) = true) ∧ l ≠ [42] ∧ l ≠ [43] := by
  unfold tgL at h
  rw [Bool.and_eq_true] at h
  refine ⟨fun c hc => ?_, ?_, ?_⟩
  · have := List.all_eq_true.1 h.2 c hc
    rw [bne_iff_ne]
    rintro rfl
    revert this
    decide
  · rintro rfl
    have := h.2
    revert this
    decide
  · rintro rfl
    have := h.2
    revert this
    decide
theorem dec_32 (u : Nat) : ∀ c ∈ decDigits u, (c != 32) = true := by
  intro c hc
  have := List.all_eq_true.1 (dec_facts u).1 c hc
  rw [bne_iff_ne]
  rintro rfl
  revert this
  decide
theorem dec_ne (u : Nat) {c : UInt8} {l : List UInt8} (hc : isDig c = false) : decDigits u ≠ c :: l := by
  intro e
  obtain ⟨d, m, h, hd⟩ := dec_cons u
  rw [e] at h
  injection h with h1 h2
  rw [h1, hd] at hc
  cases hc

section
variable (lit : List UInt8 → Option (List UInt8 × Nat))
def guessM (s : List UInt8) : RI :=
  if (wordT s).1 = [43] then ⟨10, 0, [], 0, lineT (wordT s).2, 0, 0, 0, 0, []⟩
  else if (wordT s).1 ≠ [42] then
    (if (wordT (wordT s).2).1 = [79, 75] then ⟨9, 0, (wordT s).1, 0, lineT (wordT (wordT s).2).2, 0, 0, 0, 0, []⟩
     else if (wordT (wordT s).2).1 = [78, 79] then ⟨9, 0, (wordT s).1, 1, lineT (wordT (wordT s).2).2, 0, 0, 0, 0, []⟩
     else if (wordT (wordT s).2).1 = [66, 65, 68] then ⟨9, 0, (wordT s).1, 2, lineT (wordT (wordT s).2).2, 0, 0, 0, 0, []⟩
     else rsZero)
  else if (wordT (wordT s).2).1 = [70, 76, 65, 71, 83] then ⟨5, 0, [], 0, [], 0, 0, 0, 0, []⟩
  else if (wordT (wordT s).2).1 = [79, 75] then ⟨6, 0, [], 0, lineT (wordT (wordT s).2).2, 0, 0, 0, 0, []⟩
  else if (wordT (wordT s).2).1 = [66, 89, 69] then ⟨7, 0, [], 0, lineT (wordT (wordT s).2).2, 0, 0, 0, 0, []⟩
  else if (wordT (wordT s).2).1 = [66, 65, 68] then ⟨8, 0, [], 0, lineT (wordT (wordT s).2).2, 0, 0, 0, 0, []⟩
  else match numOf (wordT (wordT s).2).1 with
    | none => rsZero
    | some x =>
      if lineT (wordT (wordT s).2).2 = [69, 88, 73, 83, 84, 83] then ⟨1, x, [], 0, [], 0, 0, 0, 0, []⟩
      else if lineT (wordT (wordT s).2).2 = [82, 69, 67, 69, 78, 84] then ⟨2, x, [], 0, [], 0, 0, 0, 0, []⟩
      else if lineT (wordT (wordT s).2).2 = [69, 88, 80, 85, 78, 71, 69] then ⟨3, x, [], 0, [], 0, 0, 0, 0, []⟩
      else if [70, 69, 84, 67, 72, 32, 40].isPrefixOf (wordT (wordT s).2).2 then fetM lit 5 ((wordT (wordT s).2).2.drop 7) (rpR x 0 0 0 0 [])
      else rsZero
variable {lit}
theorem guess_num {n : Nat} (hn : n ≤ 4294967295) (m : List UInt8) : guessM lit ([42, 32] ++ (decDigits n ++ 32 :: m)) =
    (if lineT m = [69, 88, 73, 83, 84, 83] then ⟨1, n, [], 0, [], 0, 0, 0, 0, []⟩
      else if lineT m = [82, 69, 67, 69, 78, 84] then ⟨2, n, [], 0, [], 0, 0, 0, 0, []⟩
      else if lineT m = [69, 88, 80, 85, 78, 71, 69] then ⟨3, n, [], 0, [], 0, 0, 0, 0, []⟩
      else if [70, 69, 84, 67, 72, 32, 40].isPrefixOf m then fetM lit 5 (m.drop 7) (rpR n 0 0 0 0 [])
      else rsZero) := by
  have w1 : wordT ([42, 32] ++ (decDigits n ++ 32 :: m)) = ([42], decDigits n ++ 32 :: m) := wordT_sp (l := [42]) (by decide) _
  have w2 : wordT (decDigits n ++ 32 :: m) = (decDigits n, m) := wordT_sp (dec_32 n) _
  unfold guessM
  rw [w1]
  dsimp only
  rw [w2]
  dsimp only
  rw [if_neg (by decide), if_neg (by decide), if_neg (dec_ne n (by decide)), if_neg (dec_ne n (by decide)), if_neg (dec_ne n (by decide)), if_neg (dec_ne n (by decide)), numOf_dec hn]
theorem guess_txt {w : List UInt8} (hw : ∀ c ∈ w, (c != 32) = true) {l : List UInt8} (hl : txtL l = true) (t : List UInt8) :
    wordT ([42, 32] ++ (w ++ 32 :: (l ++ 13 :: 10 :: t))) = ([42], w ++ 32 :: (l ++ 13 :: 10 :: t)) ∧ wordT (w ++ 32 :: (l ++ 13 :: 10 :: t)) = (w, l ++ 13 :: 10 :: t) ∧ lineT (l ++ 13 :: 10 :: t) = l :=
  ⟨wordT_sp (l := [42]) (by decide) _, wordT_sp hw _, lineT_txt (txt_13 hl) t⟩
/-- WHAT WAS WRITTEN IS GUESSED. -/
theorem guess_form (hlit : ∀ b post : List UInt8, b.length ≤ 65536 → lit (literalL b ++ post) = some (b, (literalL b).length)) {r : RI} (hi : RIok r) (hr : rsOk r = true) (t : List UInt8) : guessM lit (rsForm r ++ t) = r := by
  obtain ⟨fr, or⟩ := ok_own hr
  have hk := ok_kind fr
  have hc : r.kind = 1 ∨ r.kind = 2 ∨ r.kind = 3 ∨ r.kind = 4 ∨ r.kind = 5 ∨ r.kind = 6 ∨ r.kind = 7 ∨ r.kind = 8 ∨ r.kind = 9 ∨ r.kind = 10 := by omega
  have lo : r.kind = 1 ∨ r.kind = 2 ∨ r.kind = 3 → r = ⟨r.kind, r.n, [], 0, [], 0, 0, 0, 0, []⟩ := fun h => by
    refine or.trans ?_
    unfold rsOwn
    rw [if_pos h]
  rcases hc with e | e | e | e | e | e | e | e | e | e
  · have : rsForm r ++ t = [42, 32] ++ (decDigits r.n ++ 32 :: ([69, 88, 73, 83, 84, 83] ++ 13 :: 10 :: t)) := by unfold rsForm rsLine rsWord; simp [e]
    rw [this, guess_num hi.n, lineT_txt (by decide), if_pos rfl, lo (by omega), e]
  · have : rsForm r ++ t = [42, 32] ++ (decDigits r.n ++ 32 :: ([82, 69, 67, 69, 78, 84] ++ 13 :: 10 :: t)) := by unfold rsForm rsLine rsWord; simp [e]
    rw [this, guess_num hi.n, lineT_txt (by decide), if_neg (by decide), if_pos rfl, lo (by omega), e]
  · have : rsForm r ++ t = [42, 32] ++ (decDigits r.n ++ 32 :: ([69, 88, 80, 85, 78, 71, 69] ++ 13 :: 10 :: t)) := by unfold rsForm rsLine rsWord; simp [e]
    rw [this, guess_num hi.n, lineT_txt (by decide), if_neg (by decide), if_neg (by decide), if_pos rfl, lo (by omega), e]
  · have hx : rsForm r ++ t = [42, 32] ++ (decDigits r.n ++ 32 :: ([70, 69, 84, 67, 72, 32, 40] ++ (spL (rsParts r) ++ 41 :: (13 :: 10 :: t)))) := by unfold rsForm rsLine; simp [e]
    obtain ⟨⟨i1, i2, i8⟩, hf⟩ := fet_fit e fr
    have hb : r.body.length ≤ 65536 := by
      have := fr
      unfold rsFit at this
      rw [if_neg (by omega), if_pos e] at this
      simp only [Bool.and_eq_true, decide_eq_true_eq] at this
      exact this.2.2
    have hne := fet_ne e fr
    have hp : rsParts r = partsB (rsBit r.items 1) (rsBit r.items 2) (rsBit r.items 4) (rsBit r.items 16) r.flags r.uid r.size r.body := rfl
    have key : ∀ n : Fin 32, rsBit (n.val : Int) 8 = false → itemsB (rsBit (n.val : Int) 1) (rsBit (n.val : Int) 2) (rsBit (n.val : Int) 4) (rsBit (n.val : Int) 16) = (n.val : Int) := by decide +kernel
    have hit : itemsB (rsBit r.items 1) (rsBit r.items 2) (rsBit r.items 4) (rsBit r.items 16) = r.items := by
      obtain ⟨m, hm⟩ : ∃ m : Nat, r.items = m := ⟨r.items.toNat, by omega⟩
      rw [hm] at i1 i2 i8 ⊢
      exact key ⟨m, by omega⟩ i8
    have hne2 : (rsBit r.items 1 || rsBit r.items 2 || rsBit r.items 4 || rsBit r.items 16) = true := by
      rw [hp] at hne
      revert hne
      unfold partsB
      cases rsBit r.items 1 <;> cases rsBit r.items 2 <;> cases rsBit r.items 4 <;> cases rsBit r.items 16 <;> simp
    have hd : ([70, 69, 84, 67, 72, 32, 40] ++ (spL (rsParts r) ++ 41 :: (13 :: 10 :: t))).drop 7 = spL (rsParts r) ++ 41 :: (13 :: 10 :: t) := by simp
    have hh : lineT ([70, 69, 84, 67, 72, 32, 40] ++ (spL (rsParts r) ++ 41 :: (13 :: 10 :: t))) = [] ∨ ∃ x, lineT ([70, 69, 84, 67, 72, 32, 40] ++ (spL (rsParts r) ++ 41 :: (13 :: 10 :: t))) = 70 :: x := lineT_head _
    have hnl : ∀ {c : UInt8} {l : List UInt8}, c ≠ 70 → lineT ([70, 69, 84, 67, 72, 32, 40] ++ (spL (rsParts r) ++ 41 :: (13 :: 10 :: t))) ≠ c :: l := by
      intro c l hc h
      rcases hh with h1 | ⟨x, h1⟩
      · rw [h1] at h; cases h
      · rw [h1] at h; injection h with h2 _; exact hc h2.symm
    rw [hx, guess_num hi.n, if_neg (hnl (by decide)), if_neg (hnl (by decide)), if_neg (hnl (by decide)), if_pos (by simp [List.isPrefixOf]), hd, hp, fet_done hlit r.n r.flags r.uid r.size r.body hf hi.uid hi.size hb _ _ _ _ hne2, hit]
    refine Eq.trans ?_ or.symm
    rw [show rsOwn r = rsAmong ⟨r.kind, r.n, [], 0, [], r.items, r.flags, r.uid, r.size, r.body⟩ by unfold rsOwn; rw [if_neg (by omega), if_pos e]]
    unfold rpR rsAmong
    rw [e]
  · have hx : rsForm r ++ t = [42, 32] ++ ([70, 76, 65, 71, 83] ++ 32 :: (listL 31 ++ 13 :: 10 :: t)) := by unfold rsForm rsLine; simp [e]
    have w1 : wordT ([42, 32] ++ ([70, 76, 65, 71, 83] ++ 32 :: (listL 31 ++ 13 :: 10 :: t))) = ([42], [70, 76, 65, 71, 83] ++ 32 :: (listL 31 ++ 13 :: 10 :: t)) := wordT_sp (l := [42]) (by decide) _
    have w2 : wordT ([70, 76, 65, 71, 83] ++ 32 :: (listL 31 ++ 13 :: 10 :: t)) = ([70, 76, 65, 71, 83], listL 31 ++ 13 :: 10 :: t) := wordT_sp (by decide) _
    rw [hx]
    unfold guessM
    rw [w1]
    dsimp only
    rw [w2]
    dsimp only
    rw [if_neg (by decide), if_neg (by decide), if_pos rfl]
    refine Eq.trans ?_ or.symm
    rw [own_hi (by omega), if_pos e, e]
  · have hx : rsForm r ++ t = [42, 32] ++ ([79, 75] ++ 32 :: (r.text ++ 13 :: 10 :: t)) := by unfold rsForm rsLine rsPre; simp [e]
    obtain ⟨w1, w2, w3⟩ := guess_txt (w := [79, 75]) (by decide) (fit_text fr (by omega)) t
    rw [hx]
    unfold guessM
    rw [w1]
    dsimp only
    rw [w2]
    dsimp only
    rw [w3, if_neg (by decide), if_neg (by decide), if_neg (by decide), if_pos rfl]
    refine Eq.trans ?_ or.symm
    rw [own_hi (by omega), if_neg (by omega), if_neg (by omega), e]
  · have hx : rsForm r ++ t = [42, 32] ++ ([66, 89, 69] ++ 32 :: (r.text ++ 13 :: 10 :: t)) := by unfold rsForm rsLine rsPre; simp [e]
    obtain ⟨w1, w2, w3⟩ := guess_txt (w := [66, 89, 69]) (by decide) (fit_text fr (by omega)) t
    rw [hx]
    unfold guessM
    rw [w1]
    dsimp only
    rw [w2]
    dsimp only
    rw [w3, if_neg (by decide), if_neg (by decide), if_neg (by decide), if_neg (by decide), if_pos rfl]
    refine Eq.trans ?_ or.symm
    rw [own_hi (by omega), if_neg (by omega), if_neg (by omega), e]
  · have hx : rsForm r ++ t = [42, 32] ++ ([66, 65, 68] ++ 32 :: (r.text ++ 13 :: 10 :: t)) := by unfold rsForm rsLine rsPre; simp [e]
    obtain ⟨w1, w2, w3⟩ := guess_txt (w := [66, 65, 68]) (by decide) (fit_text fr (by omega)) t
    rw [hx]
    unfold guessM
    rw [w1]
    dsimp only
    rw [w2]
    dsimp only
    rw [w3, if_neg (by decide), if_neg (by decide), if_neg (by decide), if_neg (by decide), if_neg (by decide), if_pos rfl]
    refine Eq.trans ?_ or.symm
    rw [own_hi (by omega), if_neg (by omega), if_neg (by omega), e]
  · have gr : tgL r.tag = true ∧ (0 ≤ r.status ∧ r.status ≤ 2) := by
      have := fr
      unfold rsFit at this
      rw [if_neg (by omega), if_neg (by omega), if_neg (by omega), if_pos e] at this
      simp only [Bool.and_eq_true, decide_eq_true_eq] at this
      exact ⟨this.1, this.2.2⟩
    obtain ⟨t1, t2, t3⟩ := tag_32 gr.1
    have hx : rsForm r ++ t = r.tag ++ 32 :: (rsStat r.status ++ 32 :: (r.text ++ 13 :: 10 :: t)) := by unfold rsForm rsLine; simp [e]
    have hst : ∀ c ∈ rsStat r.status, (c != 32) = true := by
      unfold rsStat
      split
      · decide
      · split <;> decide
    have w1 : wordT (r.tag ++ 32 :: (rsStat r.status ++ 32 :: (r.text ++ 13 :: 10 :: t))) = (r.tag, rsStat r.status ++ 32 :: (r.text ++ 13 :: 10 :: t)) := wordT_sp t1 _
    have w2 : wordT (rsStat r.status ++ 32 :: (r.text ++ 13 :: 10 :: t)) = (rsStat r.status, r.text ++ 13 :: 10 :: t) := wordT_sp hst _
    have w3 := lineT_txt (txt_13 (fit_text fr (by omega))) t
    have ho : r = ⟨9, 0, r.tag, r.status, r.text, 0, 0, 0, 0, []⟩ := by
      refine or.trans ?_
      rw [own_hi (by omega), if_neg (by omega), if_pos e]
    rw [hx]
    unfold guessM
    rw [w1]
    dsimp only
    rw [w2]
    dsimp only
    rw [w3, if_neg t3, if_pos t2]
    have hs : r.status = 0 ∨ r.status = 1 ∨ r.status = 2 := by omega
    rcases hs with q | q | q
    · rw [q, show rsStat 0 = [79, 75] from rfl, if_pos rfl]
      exact (ho.trans (by rw [q])).symm
    · rw [q, show rsStat 1 = [78, 79] from rfl, if_neg (by decide), if_pos rfl]
      exact (ho.trans (by rw [q])).symm
    · rw [q, show rsStat 2 = [66, 65, 68] from rfl, if_neg (by decide), if_neg (by decide), if_pos rfl]
      exact (ho.trans (by rw [q])).symm
  · have hx : rsForm r ++ t = [43] ++ 32 :: (r.text ++ 13 :: 10 :: t) := by unfold rsForm rsLine rsPre; simp [e]
    have w1 : wordT ([43] ++ 32 :: (r.text ++ 13 :: 10 :: t)) = ([43], r.text ++ 13 :: 10 :: t) := wordT_sp (by decide) _
    have w3 := lineT_txt (txt_13 (fit_text fr (by omega))) t
    rw [hx]
    unfold guessM
    rw [w1]
    dsimp only
    rw [w3, if_pos rfl]
    refine Eq.trans ?_ or.symm
    rw [own_hi (by omega), if_neg (by omega), if_neg (by omega), e]
end
end Go.Proofs.YtpoejnajnaolpaaGreatDoor
