/- reply: a valid response's form is read step by step. No walk. -/
import Derived.Test.YtpoejnajnaolpaaGreatDoorRpRun2
namespace Go.Proofs.YtpoejnajnaolpaaGreatDoor
open Go.RowKit
open Go.Lib hiding intOf

theorem end_is (t : List UInt8) (r : RI) : endP (13 :: 10 :: t) r = some (r, t) := by simp [endP, List.isPrefixOf]
theorem tw_stop {p : UInt8 → Bool} {l : List UInt8} (h : ∀ c ∈ l, p c = true) {c : UInt8} (hc : p c = false) (x : List UInt8) : (l ++ c :: x).takeWhile p = l ∧ (l ++ c :: x).drop ((l ++ c :: x).takeWhile p).length = c :: x := by
  have e : (l ++ c :: x).takeWhile p = l := by
    rw [List.takeWhile_append_of_pos h, List.takeWhile_cons_of_neg (by rw [hc]; decide), List.append_nil]
  exact ⟨e, by rw [e, List.drop_left]⟩
theorem run_text {x : List UInt8} (hx : txtL x = true) (t : List UInt8) (r : RI) : runP .text (x ++ 13 :: 10 :: t) r = some ({ r with text := x }, t) := by
  unfold txtL at hx
  rw [Bool.and_eq_true] at hx
  obtain ⟨e1, e2⟩ := tw_stop (p := txB) (fun c hc => List.all_eq_true.1 hx.2 c hc) (show txB 13 = false by decide) (10 :: t)
  rw [runP_next (by simp)]
  simp only [nextP]
  rw [e2, e1, if_neg (by simpa using hx.1)]
  exact end_is t _
theorem run_tag {g x : List UInt8} {s : Int} (hg : tgL g = true) (hs : 0 ≤ s ∧ s ≤ 2) (hx : txtL x = true) (t : List UInt8) (r : RI) :
    runP .tag (g ++ 32 :: (rsStat s ++ 32 :: (x ++ 13 :: 10 :: t))) r = some ({ r with tag := g, status := s, text := x }, t) := by
  unfold tgL at hg
  rw [Bool.and_eq_true] at hg
  obtain ⟨e1, e2⟩ := tw_stop (p := tgB) (fun c hc => List.all_eq_true.1 hg.2 c hc) (show tgB 32 = false by decide) (rsStat s ++ 32 :: (x ++ 13 :: 10 :: t))
  rw [runP_next (by simp)]
  simp only [nextP]
  rw [e2, e1, if_neg (by simpa using hg.1)]
  have hc : s = 0 ∨ s = 1 ∨ s = 2 := by omega
  rcases hc with rfl | rfl | rfl
  · rw [show staP (32 :: (rsStat 0 ++ 32 :: (x ++ 13 :: 10 :: t))) { r with tag := g } = some (.text, x ++ 13 :: 10 :: t, { r with tag := g, status := 0 }) by simp [staP, rsStat, List.isPrefixOf]]
    exact run_text hx t _
  · rw [show staP (32 :: (rsStat 1 ++ 32 :: (x ++ 13 :: 10 :: t))) { r with tag := g } = some (.text, x ++ 13 :: 10 :: t, { r with tag := g, status := 1 }) by simp [staP, rsStat, List.isPrefixOf]]
    exact run_text hx t _
  · rw [show staP (32 :: (rsStat 2 ++ 32 :: (x ++ 13 :: 10 :: t))) { r with tag := g } = some (.text, x ++ 13 :: 10 :: t, { r with tag := g, status := 2 }) by simp [staP, rsStat, List.isPrefixOf]]
    exact run_text hx t _
theorem item_take {k : Nat} {x l : List UInt8} {r q : RI} (h : readK k x r = some (l, q)) : itemK k (nmK k r ++ x) r = some (l, { q with items := bits BinOp.or IntKind.i64 r.items (itB k) }) := by
  unfold itemK
  rw [if_pos (by rw [List.isPrefixOf_iff_prefix]; exact List.prefix_append _ _), List.drop_left, h]
  rfl
theorem item_skip {k : Nat} {l : List UInt8} {r : RI} (h : (nmK k r).isPrefixOf l = false) : itemK k l r = some (l, r) := by
  unfold itemK
  rw [if_neg (by rw [h]; decide)]
theorem flg_is {f : Nat} (hf : f ≤ 31) (x : List UInt8) (r : RI) : readK 0 (listL f ++ x) r = some (x, { r with flags := f }) := by
  have h := list_41 ⟨f, by omega⟩
  dsimp only at h
  obtain ⟨p, hp⟩ : ∃ p, (listL f).takeWhile (· != 41) = p := ⟨_, rfl⟩
  rw [hp] at h
  have hn : ∀ y ∈ p, (y != 41) = true := by
    rw [← hp]
    intro y hy
    exact List.all_eq_true.1 List.all_takeWhile y hy
  have hx : listL f ++ x = p ++ 41 :: x := by rw [← h]; simp
  obtain ⟨e1, e2⟩ := tw_stop (p := (· != 41)) hn (show ((41 : UInt8) != 41) = false by decide) x
  have h31 : ∀ g : Fin 32, g.val &&& 31 = g.val := by decide
  have h3 := h31 ⟨f, by omega⟩
  dsimp only at h3
  simp only [readK, flgK]
  rw [hx, e2, e1, h, parse_printed f (by omega), h3]
  dsimp only
  rw [if_pos ⟨rfl, by simp [List.isPrefixOf]⟩]
  rfl
theorem dec_is {u : Nat} (hu : u ≤ 4294967295) {c : UInt8} (hc : EndC c) (x : List UInt8) : numOf ((decDigits u ++ c :: x).takeWhile isDig) = some u ∧ (decDigits u ++ c :: x).drop ((decDigits u ++ c :: x).takeWhile isDig).length = c :: x := by
  obtain ⟨e1, e2⟩ := tw_stop (p := isDig) (fun y hy => List.all_eq_true.1 (dec_facts u).1 y hy) hc.nd x
  exact ⟨by rw [e1]; exact numOf_dec hu, e2⟩
theorem uid_is {u : Nat} (hu : u ≤ 4294967295) {c : UInt8} (hc : EndC c) (x : List UInt8) (r : RI) : readK 1 (decDigits u ++ c :: x) r = some (c :: x, { r with uid := u }) := by
  obtain ⟨e1, e2⟩ := dec_is hu hc x
  simp only [readK]
  rw [e2, e1]
  rfl
theorem siz_is {u : Nat} (hu : u ≤ 4294967295) {c : UInt8} (hc : EndC c) (x : List UInt8) (r : RI) : readK 2 (decDigits u ++ c :: x) r = some (c :: x, { r with size := u }) := by
  obtain ⟨e1, e2⟩ := dec_is hu hc x
  simp only [readK]
  rw [e2, e1]
  rfl
theorem lit_is {d : List UInt8} (hd : d.length ≤ 65536) (x : List UInt8) : litO (literalL d ++ x) = some (d, (literalL d).length) := by
  have := scanL_inv [] d x hd
  unfold scanL at this
  rw [if_pos (by simp)] at this
  simp only [List.nil_append, List.length_nil, Int.toNat_natCast, List.drop_zero, Nat.zero_add] at this
  rw [Option.map_eq_some_iff] at this
  obtain ⟨t, ht, e⟩ := this
  rw [ht, ← e]
theorem bod_is {d : List UInt8} (hd : d.length ≤ 65536) (x : List UInt8) (r : RI) : readK 3 (literalL d ++ x) r = some (x, { r with body := d }) := by
  simp only [readK]
  rw [lit_is hd]
  simp
theorem or_c : (bits BinOp.or IntKind.i64 0 1 = 1 ∧ bits BinOp.or IntKind.i64 0 2 = 2 ∧ bits BinOp.or IntKind.i64 1 2 = 3 ∧ bits BinOp.or IntKind.i64 0 4 = 4 ∧ bits BinOp.or IntKind.i64 1 4 = 5 ∧ bits BinOp.or IntKind.i64 2 4 = 6 ∧ bits BinOp.or IntKind.i64 3 4 = 7) ∧ (bits BinOp.or IntKind.i64 0 16 = 16 ∧ bits BinOp.or IntKind.i64 1 16 = 17 ∧ bits BinOp.or IntKind.i64 2 16 = 18 ∧ bits BinOp.or IntKind.i64 3 16 = 19 ∧ bits BinOp.or IntKind.i64 4 16 = 20 ∧ bits BinOp.or IntKind.i64 5 16 = 21 ∧ bits BinOp.or IntKind.i64 6 16 = 22 ∧ bits BinOp.or IntKind.i64 7 16 = 23) := by decide +kernel
theorem run_items (n f u z : Nat) (d : List UInt8) (hf : f ≤ 31) (hu : u ≤ 4294967295) (hz : z ≤ 4294967295) (hd : d.length ≤ 65536) (b1 b2 b4 b16 : Bool) (hne : (b1 || b2 || b4 || b16) = true) (x : List UInt8) :
    runP .items (spL (partsB b1 b2 b4 b16 f u z d) ++ 41 :: (13 :: 10 :: x)) (rpR n 0 0 0 0 []) = some (rpR n (itemsB b1 b2 b4 b16) (if b1 = true then f else 0) (if b2 = true then u else 0) (if b4 = true then z else 0) (if b16 = true then d else []), x) := by
  have n1 : ∀ {it : Int} k a b c e, it ≠ 0 → nmK k (rpR n it a b c e) = 32 :: itN k := fun k a b c e h => nmK_more k n a b c e h
  have n0 : ∀ k a b c e, nmK k (rpR n 0 a b c e) = itN k := fun k a b c e => nmK_zero k n a b c e
  have F1 : ∀ (y : List UInt8), itemK 0 (([70, 76, 65, 71, 83, 32] ++ listL f) ++ y) (rpR n 0 0 0 0 []) = some (y, rpR n (bits BinOp.or IntKind.i64 0 1) f 0 0 []) := fun y => by
    have := item_take (k := 0) (flg_is hf y (rpR n 0 0 0 0 []))
    rw [n0] at this
    rw [List.append_assoc]
    exact this
  have U1 : ∀ {c : UInt8} (_ : EndC c) (y : List UInt8) a, itemK 1 (([85, 73, 68, 32] ++ decDigits u) ++ c :: y) (rpR n 0 a 0 0 []) = some (c :: y, rpR n (bits BinOp.or IntKind.i64 0 2) a u 0 []) := fun hc y a => by
    have := item_take (k := 1) (uid_is hu hc y (rpR n 0 a 0 0 []))
    rw [n0] at this
    rw [List.append_assoc]
    exact this
  have U2 : ∀ {c : UInt8} (_ : EndC c) (y : List UInt8) {it : Int} (_ : it ≠ 0) a, itemK 1 (32 :: (([85, 73, 68, 32] ++ decDigits u) ++ c :: y)) (rpR n it a 0 0 []) = some (c :: y, rpR n (bits BinOp.or IntKind.i64 it 2) a u 0 []) := fun hc y it hi a => by
    have := item_take (k := 1) (uid_is hu hc y (rpR n it a 0 0 []))
    rw [n1 _ _ _ _ _ hi] at this
    rw [List.append_assoc]
    exact this
  have Z1 : ∀ {c : UInt8} (_ : EndC c) (y : List UInt8) a b, itemK 2 (([82, 70, 67, 56, 50, 50, 46, 83, 73, 90, 69, 32] ++ decDigits z) ++ c :: y) (rpR n 0 a b 0 []) = some (c :: y, rpR n (bits BinOp.or IntKind.i64 0 4) a b z []) := fun hc y a b => by
    have := item_take (k := 2) (siz_is hz hc y (rpR n 0 a b 0 []))
    rw [n0] at this
    rw [List.append_assoc]
    exact this
  have Z2 : ∀ {c : UInt8} (_ : EndC c) (y : List UInt8) {it : Int} (_ : it ≠ 0) a b, itemK 2 (32 :: (([82, 70, 67, 56, 50, 50, 46, 83, 73, 90, 69, 32] ++ decDigits z) ++ c :: y)) (rpR n it a b 0 []) = some (c :: y, rpR n (bits BinOp.or IntKind.i64 it 4) a b z []) := fun hc y it hi a b => by
    have := item_take (k := 2) (siz_is hz hc y (rpR n it a b 0 []))
    rw [n1 _ _ _ _ _ hi] at this
    rw [List.append_assoc]
    exact this
  have B1 : ∀ (y : List UInt8) a b c, itemK 3 (([66, 79, 68, 89, 91, 93, 32] ++ literalL d) ++ y) (rpR n 0 a b c []) = some (y, rpR n (bits BinOp.or IntKind.i64 0 16) a b c d) := fun y a b c => by
    have := item_take (k := 3) (bod_is hd y (rpR n 0 a b c []))
    rw [n0] at this
    rw [List.append_assoc]
    exact this
  have B2 : ∀ (y : List UInt8) {it : Int} (_ : it ≠ 0) a b c, itemK 3 (32 :: (([66, 79, 68, 89, 91, 93, 32] ++ literalL d) ++ y)) (rpR n it a b c []) = some (y, rpR n (bits BinOp.or IntKind.i64 it 16) a b c d) := fun y it hi a b c => by
    have := item_take (k := 3) (bod_is hd y (rpR n it a b c []))
    rw [n1 _ _ _ _ _ hi] at this
    rw [List.append_assoc]
    exact this
  have SE : ∀ k (y : List UInt8) {it : Int} (_ : it ≠ 0) a b c e, itemK k (41 :: y) (rpR n it a b c e) = some (41 :: y, rpR n it a b c e) := fun k y it hi a b c e => item_skip (by rw [n1 _ _ _ _ _ hi]; simp [List.isPrefixOf])
  have s0u : ∀ (y : List UInt8) a b c e, itemK 0 (([85, 73, 68, 32] ++ decDigits u) ++ y) (rpR n 0 a b c e) = some (([85, 73, 68, 32] ++ decDigits u) ++ y, rpR n 0 a b c e) := fun y a b c e => item_skip (by rw [n0]; simp [itN, List.isPrefixOf])
  have s0z : ∀ (y : List UInt8) a b c e, itemK 0 (([82, 70, 67, 56, 50, 50, 46, 83, 73, 90, 69, 32] ++ decDigits z) ++ y) (rpR n 0 a b c e) = some (([82, 70, 67, 56, 50, 50, 46, 83, 73, 90, 69, 32] ++ decDigits z) ++ y, rpR n 0 a b c e) := fun y a b c e => item_skip (by rw [n0]; simp [itN, List.isPrefixOf])
  have s0b : ∀ (y : List UInt8) a b c e, itemK 0 (([66, 79, 68, 89, 91, 93, 32] ++ literalL d) ++ y) (rpR n 0 a b c e) = some (([66, 79, 68, 89, 91, 93, 32] ++ literalL d) ++ y, rpR n 0 a b c e) := fun y a b c e => item_skip (by rw [n0]; simp [itN, List.isPrefixOf])
  have s1z : ∀ (y : List UInt8) a b c e, itemK 1 (([82, 70, 67, 56, 50, 50, 46, 83, 73, 90, 69, 32] ++ decDigits z) ++ y) (rpR n 0 a b c e) = some (([82, 70, 67, 56, 50, 50, 46, 83, 73, 90, 69, 32] ++ decDigits z) ++ y, rpR n 0 a b c e) := fun y a b c e => item_skip (by rw [n0]; simp [itN, List.isPrefixOf])
  have s1b : ∀ (y : List UInt8) a b c e, itemK 1 (([66, 79, 68, 89, 91, 93, 32] ++ literalL d) ++ y) (rpR n 0 a b c e) = some (([66, 79, 68, 89, 91, 93, 32] ++ literalL d) ++ y, rpR n 0 a b c e) := fun y a b c e => item_skip (by rw [n0]; simp [itN, List.isPrefixOf])
  have s2b : ∀ (y : List UInt8) a b c e, itemK 2 (([66, 79, 68, 89, 91, 93, 32] ++ literalL d) ++ y) (rpR n 0 a b c e) = some (([66, 79, 68, 89, 91, 93, 32] ++ literalL d) ++ y, rpR n 0 a b c e) := fun y a b c e => item_skip (by rw [n0]; simp [itN, List.isPrefixOf])
  have t1z : ∀ (y : List UInt8) {it : Int} (_ : it ≠ 0) a b c e, itemK 1 (32 :: (([82, 70, 67, 56, 50, 50, 46, 83, 73, 90, 69, 32] ++ decDigits z) ++ y)) (rpR n it a b c e) = some (32 :: (([82, 70, 67, 56, 50, 50, 46, 83, 73, 90, 69, 32] ++ decDigits z) ++ y), rpR n it a b c e) := fun y it hi a b c e => item_skip (by rw [n1 _ _ _ _ _ hi]; simp [itN, List.isPrefixOf])
  have t1b : ∀ (y : List UInt8) {it : Int} (_ : it ≠ 0) a b c e, itemK 1 (32 :: (([66, 79, 68, 89, 91, 93, 32] ++ literalL d) ++ y)) (rpR n it a b c e) = some (32 :: (([66, 79, 68, 89, 91, 93, 32] ++ literalL d) ++ y), rpR n it a b c e) := fun y it hi a b c e => item_skip (by rw [n1 _ _ _ _ _ hi]; simp [itN, List.isPrefixOf])
  have t2b : ∀ (y : List UInt8) {it : Int} (_ : it ≠ 0) a b c e, itemK 2 (32 :: (([66, 79, 68, 89, 91, 93, 32] ++ literalL d) ++ y)) (rpR n it a b c e) = some (32 :: (([66, 79, 68, 89, 91, 93, 32] ++ literalL d) ++ y), rpR n it a b c e) := fun y it hi a b c e => item_skip (by rw [n1 _ _ _ _ _ hi]; simp [itN, List.isPrefixOf])
  have e32 : EndC 32 := .inl rfl
  have e41 : EndC 41 := .inr rfl
  obtain ⟨⟨o1, o2, o3, o4, o5, o6, o7⟩, o16, o17, o18, o19, o20, o21, o22, o23⟩ := or_c
  have key : ∀ {l : List UInt8} {q : RI}, itR 4 l (rpR n 0 0 0 0 []) = some (41 :: 13 :: 10 :: x, q) → q.items ≠ 0 → runP .items l (rpR n 0 0 0 0 []) = some (q, x) := fun h hq => by
    rw [runP_next (by simp)]
    simp only [nextP]
    rw [h]
    simp only [Option.bind_some]
    rw [if_pos ⟨hq, by simp [List.isPrefixOf]⟩]
    exact end_is x _
  refine key ?_ (by
    show itemsB b1 b2 b4 b16 ≠ 0
    revert hne
    cases b1 <;> cases b2 <;> cases b4 <;> cases b16 <;> decide)
  unfold partsB
  generalize [70, 76, 65, 71, 83, 32] ++ listL f = pf at *
  generalize [85, 73, 68, 32] ++ decDigits u = pu at *
  generalize [82, 70, 67, 56, 50, 50, 46, 83, 73, 90, 69, 32] ++ decDigits z = pz at *
  generalize [66, 79, 68, 89, 91, 93, 32] ++ literalL d = pb at *
  cases b1 <;> cases b2 <;> cases b4 <;> cases b16
  case false.false.false.false => cases hne
  all_goals
    simp only [if_true, if_false, Bool.false_eq_true, List.nil_append, List.append_nil, List.singleton_append]
    repeat (first | rw [spL_cons, List.append_assoc, List.cons_append] | rw [spL_one])
    simp only [itR, Nat.reduceSub, Option.bind_some, F1, U1 e32, U1 e41, Z1 e32, Z1 e41, B1, s0u, s0z, s0b, s1z, s1b, s2b, o1, o2, o4, o16, ne_eq, Int.reduceEq, not_false_eq_true, U2 e32, U2 e41, Z2 e32, Z2 e41, B2, SE, t1z, t1b, t2b, o3, o5, o6, o7, o17, o18, o19, o20, o21, o22, o23]
    rfl
theorem beg_un (l : List UInt8) : runP .begin ([42, 32] ++ l) rsZero = runP .untagged l rsZero := by
  rw [runP_next (by simp)]
  rw [show nextP .begin ([42, 32] ++ l) rsZero = some (.untagged, l, rsZero) by simp [nextP, choP, csB, List.isPrefixOf, rsZero]]
  rfl
theorem run_num {n : Nat} (hn : n ≤ 4294967295) (m : List UInt8) : runP .begin ([42, 32] ++ (decDigits n ++ 32 :: m)) rsZero = (choP csN (32 :: m) { rsZero with n := n }).bind fun p => runP p.1 p.2.1 p.2.2 := by
  obtain ⟨c, d, hd, hc⟩ := dec_cons n
  have ne : ∀ k : UInt8, isDig k = false → (k == c) = false := fun k hk => by
    rw [beq_eq_false_iff_ne]
    rintro rfl
    rw [hk] at hc
    cases hc
  rw [beg_un, runP_next (by simp), show nextP .untagged (decDigits n ++ 32 :: m) rsZero = some (.number, decDigits n ++ 32 :: m, rsZero) by
    rw [hd]
    simp [nextP, choP, csU, List.isPrefixOf, rsZero, ne 79 (by decide), ne 66 (by decide), ne 70 (by decide)]]
  simp only [Option.bind_some]
  obtain ⟨e1, e2⟩ := dec_is hn (.inl rfl : EndC 32) m
  rw [runP_next (by simp)]
  simp only [nextP]
  rw [e1, e2]
  rfl
theorem cho_text {w : List UInt8} {k : Int} (h : ∀ l, choP csU (w ++ l) rsZero = some (.text, l, { rsZero with kind := k })) {x : List UInt8} (hx : txtL x = true) (t : List UInt8) :
    runP .begin ([42, 32] ++ (w ++ (x ++ 13 :: 10 :: t))) rsZero = some (⟨k, 0, [], 0, x, 0, 0, 0, 0, []⟩, t) := by
  rw [beg_un, runP_next (by simp), show nextP .untagged (w ++ (x ++ 13 :: 10 :: t)) rsZero = _ from h _]
  exact run_text hx t _
/-- WHAT WAS WRITTEN IS READ. -/
theorem run_form {r : RI} (hi : RIok r) (hr : rsOk r = true) (t : List UInt8) : runP .begin (rsForm r ++ t) rsZero = some (r, t) := by
  obtain ⟨fr, or⟩ := ok_own hr
  have hk := ok_kind fr
  have hc : r.kind = 1 ∨ r.kind = 2 ∨ r.kind = 3 ∨ r.kind = 4 ∨ r.kind = 5 ∨ r.kind = 6 ∨ r.kind = 7 ∨ r.kind = 8 ∨ r.kind = 9 ∨ r.kind = 10 := by omega
  have lo : r.kind = 1 ∨ r.kind = 2 ∨ r.kind = 3 → r = ⟨r.kind, r.n, [], 0, [], 0, 0, 0, 0, []⟩ := fun h => by
    refine or.trans ?_
    unfold rsOwn
    rw [if_pos h]
  have hi3 : 6 ≤ r.kind → r.kind ≠ 9 → r = ⟨r.kind, 0, [], 0, r.text, 0, 0, 0, 0, []⟩ := fun h h9 => by
    refine or.trans ?_
    rw [own_hi (by omega), if_neg (by omega), if_neg h9]
  rcases hc with e | e | e | e | e | e | e | e | e | e
  · have : rsForm r ++ t = [42, 32] ++ (decDigits r.n ++ 32 :: ([69, 88, 73, 83, 84, 83] ++ 13 :: 10 :: t)) := by unfold rsForm rsLine rsWord; simp [e]
    rw [this, run_num hi.n]
    have ho := lo (by omega)
    rw [e] at ho
    rw [show choP csN (32 :: ([69, 88, 73, 83, 84, 83] ++ 13 :: 10 :: t)) { rsZero with n := r.n } = some (.fin, 13 :: 10 :: t, r) by
      conv => rhs; rw [ho]
      simp [choP, csN, List.isPrefixOf, rsZero]]
    exact end_is t r
  · have : rsForm r ++ t = [42, 32] ++ (decDigits r.n ++ 32 :: ([82, 69, 67, 69, 78, 84] ++ 13 :: 10 :: t)) := by unfold rsForm rsLine rsWord; simp [e]
    rw [this, run_num hi.n]
    have ho := lo (by omega)
    rw [e] at ho
    rw [show choP csN (32 :: ([82, 69, 67, 69, 78, 84] ++ 13 :: 10 :: t)) { rsZero with n := r.n } = some (.fin, 13 :: 10 :: t, r) by
      conv => rhs; rw [ho]
      simp [choP, csN, List.isPrefixOf, rsZero]]
    exact end_is t r
  · have : rsForm r ++ t = [42, 32] ++ (decDigits r.n ++ 32 :: ([69, 88, 80, 85, 78, 71, 69] ++ 13 :: 10 :: t)) := by unfold rsForm rsLine rsWord; simp [e]
    rw [this, run_num hi.n]
    have ho := lo (by omega)
    rw [e] at ho
    rw [show choP csN (32 :: ([69, 88, 80, 85, 78, 71, 69] ++ 13 :: 10 :: t)) { rsZero with n := r.n } = some (.fin, 13 :: 10 :: t, r) by
      conv => rhs; rw [ho]
      simp [choP, csN, List.isPrefixOf, rsZero]]
    exact end_is t r
  · have hx : rsForm r ++ t = [42, 32] ++ (decDigits r.n ++ 32 :: ([70, 69, 84, 67, 72, 32, 40] ++ (spL (rsParts r) ++ 41 :: (13 :: 10 :: t)))) := by unfold rsForm rsLine; simp [e]
    obtain ⟨⟨i1, i2, i8⟩, hf⟩ := fet_fit e fr
    have hb : r.body.length ≤ 65536 := by
      have := fr
      unfold rsFit at this
      rw [if_neg (by omega), if_pos e] at this
      simp only [Bool.and_eq_true, decide_eq_true_eq] at this
      exact this.2.2
    have hne := fet_ne e fr
    have hp : rsParts r = partsB (rsBit r.items 1) (rsBit r.items 2) (rsBit r.items 4) (rsBit r.items 16) r.flags r.uid r.size r.body := rfl
    have key : ∀ n : Fin 32, rsBit (n.val : Int) 8 = false → itemsB (rsBit (n.val : Int) 1) (rsBit (n.val : Int) 2) (rsBit (n.val : Int) 4) (rsBit (n.val : Int) 16) = (n.val : Int) := by decide +kernel
    have hit : itemsB (rsBit r.items 1) (rsBit r.items 2) (rsBit r.items 4) (rsBit r.items 16) = r.items := by
      obtain ⟨m, hm⟩ : ∃ m : Nat, r.items = m := ⟨r.items.toNat, by omega⟩
      rw [hm] at i1 i2 i8 ⊢
      exact key ⟨m, by omega⟩ i8
    have hne2 : (rsBit r.items 1 || rsBit r.items 2 || rsBit r.items 4 || rsBit r.items 16) = true := by
      rw [hp] at hne
      revert hne
      unfold partsB
      cases rsBit r.items 1 <;> cases rsBit r.items 2 <;> cases rsBit r.items 4 <;> cases rsBit r.items 16 <;> simp
    rw [hx, run_num hi.n]
    rw [show choP csN (32 :: ([70, 69, 84, 67, 72, 32, 40] ++ (spL (rsParts r) ++ 41 :: (13 :: 10 :: t)))) { rsZero with n := r.n } = some (.items, spL (rsParts r) ++ 41 :: (13 :: 10 :: t), rpR r.n 0 0 0 0 []) by
      simp [choP, csN, List.isPrefixOf, rsZero, rpR]]
    simp only [Option.bind_some]
    rw [hp, run_items r.n r.flags r.uid r.size r.body hf hi.uid hi.size hb _ _ _ _ hne2, hit]
    congr 2
    refine Eq.trans ?_ or.symm
    rw [show rsOwn r = rsAmong ⟨r.kind, r.n, [], 0, [], r.items, r.flags, r.uid, r.size, r.body⟩ by unfold rsOwn; rw [if_neg (by omega), if_pos e]]
    unfold rpR rsAmong
    rw [e]
  · have hx : rsForm r ++ t = [42, 32] ++ (([70, 76, 65, 71, 83, 32] ++ listL 31) ++ 13 :: 10 :: t) := by unfold rsForm rsLine; simp [e]
    have ho : r = ⟨5, 0, [], 0, [], 0, 0, 0, 0, []⟩ := by
      refine or.trans ?_
      rw [own_hi (by omega), if_pos e, e]
    rw [hx, beg_un, runP_next (by simp), show nextP .untagged (([70, 76, 65, 71, 83, 32] ++ listL 31) ++ 13 :: 10 :: t) rsZero = some (.fin, 13 :: 10 :: t, r) by
      have h4 : ([70, 76, 65, 71, 83, 32] ++ listL 31).isPrefixOf (([70, 76, 65, 71, 83, 32] ++ listL 31) ++ 13 :: 10 :: t) = true := by
        rw [List.isPrefixOf_iff_prefix]
        exact List.prefix_append _ _
      conv => rhs; rw [ho]
      simp only [nextP, choP, csU]
      rw [List.find?_cons_of_neg (by simp [List.isPrefixOf]), List.find?_cons_of_neg (by simp [List.isPrefixOf]), List.find?_cons_of_neg (by simp [List.isPrefixOf]), List.find?_cons_of_pos (p := fun x : Cw => x.word.isPrefixOf (([70, 76, 65, 71, 83, 32] ++ listL 31) ++ 13 :: 10 :: t)) (a := ⟨[70, 76, 65, 71, 83, 32] ++ listL 31, 5, .fin⟩) h4]
      simp only [Option.map_some, List.drop_left]
      rfl]
    exact end_is t r
  · have hx : rsForm r ++ t = [42, 32] ++ ([79, 75, 32] ++ (r.text ++ 13 :: 10 :: t)) := by unfold rsForm rsLine rsPre; simp [e]
    rw [hx, cho_text (k := 6) (fun l => by simp [choP, csU, List.isPrefixOf]) (fit_text fr (by omega)) t]
    have ho := hi3 (by omega) (by omega)
    rw [e] at ho
    rw [← ho]
  · have hx : rsForm r ++ t = [42, 32] ++ ([66, 89, 69, 32] ++ (r.text ++ 13 :: 10 :: t)) := by unfold rsForm rsLine rsPre; simp [e]
    rw [hx, cho_text (k := 7) (fun l => by simp [choP, csU, List.isPrefixOf]) (fit_text fr (by omega)) t]
    have ho := hi3 (by omega) (by omega)
    rw [e] at ho
    rw [← ho]
  · have hx : rsForm r ++ t = [42, 32] ++ ([66, 65, 68, 32] ++ (r.text ++ 13 :: 10 :: t)) := by unfold rsForm rsLine rsPre; simp [e]
    rw [hx, cho_text (k := 8) (fun l => by simp [choP, csU, List.isPrefixOf]) (fit_text fr (by omega)) t]
    have ho := hi3 (by omega) (by omega)
    rw [e] at ho
    rw [← ho]
  · have gr : tgL r.tag = true ∧ (0 ≤ r.status ∧ r.status ≤ 2) := by
      have := fr
      unfold rsFit at this
      rw [if_neg (by omega), if_neg (by omega), if_neg (by omega), if_pos e] at this
      simp only [Bool.and_eq_true, decide_eq_true_eq] at this
      exact ⟨this.1, this.2.2⟩
    have hx : rsForm r ++ t = r.tag ++ 32 :: (rsStat r.status ++ 32 :: (r.text ++ 13 :: 10 :: t)) := by unfold rsForm rsLine; simp [e]
    have ho : r = ⟨9, 0, r.tag, r.status, r.text, 0, 0, 0, 0, []⟩ := by
      refine or.trans ?_
      rw [own_hi (by omega), if_neg (by omega), if_pos e]
    have hb : ∀ m, nextP .begin (r.tag ++ 32 :: m) rsZero = some (.tag, r.tag ++ 32 :: m, { rsZero with kind := 9 }) := fun m => by
      have ht := gr.1
      cases hg : r.tag with
      | nil => rw [hg] at ht; cases ht
      | cons c l =>
        rw [hg] at ht
        simp only [tgL, List.isEmpty_cons, Bool.not_false, Bool.true_and, List.all_cons, Bool.and_eq_true] at ht
        have h1 : (42 == c) = false := by
          rw [beq_eq_false_iff_ne]
          rintro rfl
          have := ht.1
          revert this
          decide
        have h2 : (43 == c) = false := by
          rw [beq_eq_false_iff_ne]
          rintro rfl
          have := ht.1
          revert this
          decide
        simp [nextP, choP, csB, List.isPrefixOf, h1, h2]
    rw [hx, runP_next (by simp), hb]
    simp only [Option.bind_some]
    rw [run_tag gr.1 gr.2 (fit_text fr (by omega))]
    exact congrArg (fun q => some (q, t)) ho.symm
  · have hx : rsForm r ++ t = [43, 32] ++ (r.text ++ 13 :: 10 :: t) := by unfold rsForm rsLine rsPre; simp [e]
    rw [hx, runP_next (by simp), show nextP .begin ([43, 32] ++ (r.text ++ 13 :: 10 :: t)) rsZero = some (.text, r.text ++ 13 :: 10 :: t, { rsZero with kind := 10 }) by simp [nextP, choP, csB, List.isPrefixOf]]
    simp only [Option.bind_some]
    rw [run_text (fit_text fr (by omega))]
    have ho := hi3 (by omega) (by omega)
    rw [e] at ho
    exact congrArg (fun q => some (q, t)) ho.symm
/-- THE RUN IS THE RESPONSE THAT BEGINS HERE. -/
theorem run_at {s : List UInt8} : (∀ r t, runP .begin s rsZero = some (r, t) → RpAt s r ∧ s = rsForm r ++ t) ∧ (runP .begin s rsZero = none → ∀ r, ¬ RpAt s r) := by
  refine ⟨fun r t h => ?_, fun h r hr => ?_⟩
  · obtain ⟨h1, h2, h3⟩ := run_some h
    exact ⟨⟨h1, h2, t, h3⟩, h3⟩
  · obtain ⟨h1, h2, t, rfl⟩ := hr
    rw [run_form h1 h2] at h
    cases h
end Go.Proofs.YtpoejnajnaolpaaGreatDoor
