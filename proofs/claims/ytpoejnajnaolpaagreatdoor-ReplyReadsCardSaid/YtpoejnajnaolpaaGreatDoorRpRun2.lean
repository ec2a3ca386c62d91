/- reply: what is read step by step is a valid response's form. No walk. -/
import Derived.Test.YtpoejnajnaolpaaGreatDoorRpRun
namespace Go.Proofs.YtpoejnajnaolpaaGreatDoor
open Go.RowKit
open Go.Lib hiding intOf

theorem parse_lt {l : List UInt8} {f : Nat} (h : parseF l = some f) : f < 32 := by
  unfold parseF namesO at h
  repeat' split at h
  all_goals first
    | (obtain rfl := Option.some.inj h; first | exact orF_lt _ | decide)
    | cases h
theorem item_some {k : Nat} {l l' : List UInt8} {r r' : RI} (h : itemK k l r = some (l', r')) :
    (l' = l ∧ r' = r) ∨ ∃ m q, l = nmK k r ++ m ∧ readK k m r = some (l', q) ∧ r' = { q with items := bits BinOp.or IntKind.i64 r.items (itB k) } := by
  unfold itemK at h
  split at h
  · rename_i hp
    rw [List.isPrefixOf_iff_prefix] at hp
    rw [Option.map_eq_some_iff] at h
    obtain ⟨⟨m, q⟩, hq, e⟩ := h
    obtain ⟨rfl, rfl⟩ := Prod.mk.inj e
    exact .inr ⟨_, q, (List.prefix_iff_eq_append.1 hp).symm, hq, rfl⟩
  · obtain ⟨rfl, rfl⟩ := Prod.mk.inj (Option.some.inj h)
    exact .inl ⟨rfl, rfl⟩
theorem read0 {m l' : List UInt8} {r q : RI} (h : readK 0 m r = some (l', q)) : ∃ f, f ≤ 31 ∧ m = listL f ++ l' ∧ q = { r with flags := f } := by
  simp only [readK, flgK] at h
  split at h
  · rename_i f hf
    split at h
    · rename_i hc
      obtain ⟨rfl, rfl⟩ := Prod.mk.inj (Option.some.inj h)
      have hlt := parse_lt hf
      refine ⟨f, by omega, ?_, rfl⟩
      have h2 := hc.2
      rw [List.isPrefixOf_iff_prefix] at h2
      rw [hc.1, List.append_assoc]
      conv => lhs; rw [tw_app (· != 41) m, ← List.prefix_iff_eq_append.1 h2]
      rfl
    · cases h
  · cases h
theorem read_dec {m l' : List UInt8} {u : Nat} (h : numOf (m.takeWhile isDig) = some u) (hl : l' = m.drop (m.takeWhile isDig).length) : u ≤ 4294967295 ∧ m = decDigits u ++ l' := by
  obtain ⟨h1, h2⟩ := numOf_some h
  refine ⟨h1, ?_⟩
  rw [h2, hl]
  exact tw_app _ _
theorem read1 {m l' : List UInt8} {r q : RI} (h : readK 1 m r = some (l', q)) : ∃ u, u ≤ 4294967295 ∧ m = decDigits u ++ l' ∧ q = { r with uid := u } := by
  simp only [readK, Option.map_eq_some_iff] at h
  obtain ⟨u, hu, e⟩ := h
  obtain ⟨rfl, rfl⟩ := Prod.mk.inj e
  obtain ⟨h1, h2⟩ := read_dec hu rfl
  exact ⟨u, h1, h2, rfl⟩
theorem read2 {m l' : List UInt8} {r q : RI} (h : readK 2 m r = some (l', q)) : ∃ u, u ≤ 4294967295 ∧ m = decDigits u ++ l' ∧ q = { r with size := u } := by
  simp only [readK, Option.map_eq_some_iff] at h
  obtain ⟨u, hu, e⟩ := h
  obtain ⟨rfl, rfl⟩ := Prod.mk.inj e
  obtain ⟨h1, h2⟩ := read_dec hu rfl
  exact ⟨u, h1, h2, rfl⟩
theorem read3 {m l' : List UInt8} {r q : RI} (h : readK 3 m r = some (l', q)) : ∃ d, d.length ≤ 65536 ∧ m = literalL d ++ l' ∧ q = { r with body := d } := by
  simp only [readK, Option.map_eq_some_iff] at h
  obtain ⟨t, ht, e⟩ := h
  obtain ⟨rfl, rfl⟩ := Prod.mk.inj e
  obtain ⟨h1, h2⟩ := lit_some ht
  exact ⟨t.1, h2, h1, rfl⟩
theorem nmK_zero (k n f u z : Nat) (d : List UInt8) : nmK k (rpR n 0 f u z d) = itN k := if_pos rfl
theorem nmK_more (k n f u z : Nat) (d : List UInt8) {it : Int} (h : it ≠ 0) : nmK k (rpR n it f u z d) = 32 :: itN k := if_neg h

theorem step0 {n : Nat} {l l1 : List UInt8} {r1 : RI} (h : itemK 0 l (rpR n 0 0 0 0 []) = some (l1, r1)) :
    ∃ b f, f ≤ 31 ∧ (b = false → f = 0) ∧ r1 = rpR n (itemsB b false false false) f 0 0 [] ∧ l = spL (partsB b false false false f 0 0 []) ++ l1 := by
  rcases item_some h with ⟨rfl, rfl⟩ | ⟨m, q, e, hq, rfl⟩
  · exact ⟨false, 0, by omega, fun _ => rfl, rfl, rfl⟩
  · obtain ⟨f, hf, rfl, rfl⟩ := read0 hq
    rw [nmK_zero] at e
    refine ⟨true, f, hf, fun h => (by cases h), ?_, ?_⟩
    · unfold rpR itemsB itB
      simp only [RI.mk.injEq, true_and, and_true]
      decide +kernel
    · rw [e]
      simp [partsB, spL_one, itN]
theorem step1 {n f : Nat} {b : Bool} {l1 l2 : List UInt8} {r2 : RI} (h : itemK 1 l1 (rpR n (itemsB b false false false) f 0 0 []) = some (l2, r2)) :
    ∃ b2 u, u ≤ 4294967295 ∧ (b2 = false → u = 0) ∧ r2 = rpR n (itemsB b b2 false false) f u 0 [] ∧ spL (partsB b false false false f 0 0 []) ++ l1 = spL (partsB b b2 false false f u 0 []) ++ l2 := by
  rcases item_some h with ⟨rfl, rfl⟩ | ⟨m, q, rfl, hq, rfl⟩
  · exact ⟨false, 0, by omega, fun _ => rfl, rfl, rfl⟩
  · obtain ⟨u, hu, rfl, rfl⟩ := read1 hq
    refine ⟨true, u, hu, fun h => (by cases h), ?_, ?_⟩
    · unfold rpR itB
      simp only [RI.mk.injEq, true_and, and_true]
      cases b <;> decide +kernel
    · cases b
      · rw [show itemsB false false false false = 0 from rfl, nmK_zero]
        simp [partsB, spL_nil, spL_one, itN]
      · rw [nmK_more _ _ _ _ _ _ (by decide)]
        simp [partsB, spL_cons, spL_one, itN]
theorem step2 {n f u : Nat} {b b2 : Bool} {l1 l2 : List UInt8} {r2 : RI} (h : itemK 2 l1 (rpR n (itemsB b b2 false false) f u 0 []) = some (l2, r2)) :
    ∃ b4 z, z ≤ 4294967295 ∧ (b4 = false → z = 0) ∧ r2 = rpR n (itemsB b b2 b4 false) f u z [] ∧ spL (partsB b b2 false false f u 0 []) ++ l1 = spL (partsB b b2 b4 false f u z []) ++ l2 := by
  rcases item_some h with ⟨rfl, rfl⟩ | ⟨m, q, rfl, hq, rfl⟩
  · exact ⟨false, 0, by omega, fun _ => rfl, rfl, rfl⟩
  · obtain ⟨z, hz, rfl, rfl⟩ := read2 hq
    refine ⟨true, z, hz, fun h => (by cases h), ?_, ?_⟩
    · unfold rpR itB
      simp only [RI.mk.injEq, true_and, and_true]
      cases b <;> cases b2 <;> decide +kernel
    · cases b <;> cases b2
      · rw [show itemsB false false false false = 0 from rfl, nmK_zero]
        simp [partsB, spL_nil, spL_one, itN]
      all_goals
        rw [nmK_more _ _ _ _ _ _ (by decide)]
        simp [partsB, spL_cons, spL_one, itN]
theorem step3 {n f u z : Nat} {b b2 b4 : Bool} {l1 l2 : List UInt8} {r2 : RI} (h : itemK 3 l1 (rpR n (itemsB b b2 b4 false) f u z []) = some (l2, r2)) :
    ∃ b16 d, d.length ≤ 65536 ∧ (b16 = false → d = []) ∧ r2 = rpR n (itemsB b b2 b4 b16) f u z d ∧ spL (partsB b b2 b4 false f u z []) ++ l1 = spL (partsB b b2 b4 b16 f u z d) ++ l2 := by
  rcases item_some h with ⟨rfl, rfl⟩ | ⟨m, q, rfl, hq, rfl⟩
  · exact ⟨false, [], by simp, fun _ => rfl, rfl, rfl⟩
  · obtain ⟨d, hd, rfl, rfl⟩ := read3 hq
    refine ⟨true, d, hd, fun h => (by cases h), ?_, ?_⟩
    · unfold rpR itB
      simp only [RI.mk.injEq, true_and, and_true]
      cases b <;> cases b2 <;> cases b4 <;> decide +kernel
    · cases b <;> cases b2 <;> cases b4
      · rw [show itemsB false false false false = 0 from rfl, nmK_zero]
        simp [partsB, spL_nil, spL_one, itN]
      all_goals
        rw [nmK_more _ _ _ _ _ _ (by decide)]
        simp [partsB, spL_cons, spL_one, itN]
theorem items_bit (b1 b2 b4 b16 : Bool) : rsBit (itemsB b1 b2 b4 b16) 1 = b1 ∧ rsBit (itemsB b1 b2 b4 b16) 2 = b2 ∧ rsBit (itemsB b1 b2 b4 b16) 4 = b4 ∧ rsBit (itemsB b1 b2 b4 b16) 16 = b16 ∧ rsBit (itemsB b1 b2 b4 b16) 8 = false ∧ 0 ≤ itemsB b1 b2 b4 b16 ∧ itemsB b1 b2 b4 b16 ≤ 31 := by
  cases b1 <;> cases b2 <;> cases b4 <;> cases b16 <;> decide +kernel
/-- What the items' step reads. -/
theorem items_some {n : Nat} {l t : List UInt8} {q : RI} (hn : n ≤ 4294967295) (h : runP .items l (rpR n 0 0 0 0 []) = some (q, t)) : RIok q ∧ rsOk q = true ∧ q.kind = 4 ∧ q.n = n ∧ l = spL (rsParts q) ++ ([41, 13, 10] ++ t) := by
  rw [runP_next (by simp), Option.bind_eq_some_iff] at h
  obtain ⟨p, hp, h⟩ := h
  simp only [nextP, Option.bind_eq_some_iff] at hp
  obtain ⟨⟨l9, q9⟩, h4, hp⟩ := hp
  simp only [itR, Option.bind_eq_some_iff] at h4
  obtain ⟨⟨l1, r1⟩, h0, ⟨l2, r2⟩, h1, ⟨l3, r3⟩, h2, ⟨l4, r4⟩, h3, e⟩ := h4
  obtain ⟨rfl, rfl⟩ := Prod.mk.inj (Option.some.inj e)
  obtain ⟨b1, f, hf, hf0, rfl, e0⟩ := step0 h0
  obtain ⟨b2, u, hu, hu0, rfl, e1⟩ := step1 h1
  obtain ⟨b4, z, hz, hz0, rfl, e2⟩ := step2 h2
  obtain ⟨b16, d, hd, hd0, rfl, e3⟩ := step3 h3
  split at hp
  · rename_i hc
    obtain rfl := Option.some.inj hp
    obtain ⟨rfl, e5⟩ := end_some h
    obtain ⟨i1, i2, i4, i16, i8, ilo, ihi⟩ := items_bit b1 b2 b4 b16
    dsimp only at e1 e2 e3 e5
    have hne : itemsB b1 b2 b4 b16 ≠ 0 := hc.1
    have h41 := hc.2
    rw [List.isPrefixOf_iff_prefix] at h41
    dsimp only at h41
    refine ⟨⟨?_, hn, ?_, ?_, ?_, hu, hz⟩, ?_, rfl, rfl, ?_⟩
    · show -9223372036854775808 ≤ (4 : Int) ∧ (4 : Int) ≤ 9223372036854775807
      omega
    · show -9223372036854775808 ≤ (0 : Int) ∧ (0 : Int) ≤ 9223372036854775807
      omega
    · show -9223372036854775808 ≤ itemsB b1 b2 b4 b16 ∧ itemsB b1 b2 b4 b16 ≤ 9223372036854775807
      omega
    · show f ≤ 255
      omega
    · unfold rsOk
      have ho : rpR n (itemsB b1 b2 b4 b16) f u z d = rsOwn (rpR n (itemsB b1 b2 b4 b16) f u z d) := by
        unfold rsOwn
        rw [if_neg (by show ¬ ((4 : Int) = 1 ∨ (4 : Int) = 2 ∨ (4 : Int) = 3); omega), if_pos (show (rpR n (itemsB b1 b2 b4 b16) f u z d).kind = 4 from rfl)]
        unfold rsAmong rpR
        simp only [i1, i2, i4, i16, RI.mk.injEq, true_and]
        refine ⟨?_, ?_, ?_, ?_⟩
        · cases b1
          · exact hf0 rfl
          · rfl
        · cases b2
          · exact hu0 rfl
          · rfl
        · cases b4
          · exact hz0 rfl
          · rfl
        · cases b16
          · exact hd0 rfl
          · rfl
      rw [← ho, rsSame_refl, Bool.and_true]
      unfold rsFit
      rw [if_neg (by show ¬ ((4 : Int) = 1 ∨ (4 : Int) = 2 ∨ (4 : Int) = 3); omega), if_pos (show (rpR n (itemsB b1 b2 b4 b16) f u z d).kind = 4 from rfl)]
      simp only [Bool.and_eq_true, decide_eq_true_eq]
      exact ⟨⟨by show 1 ≤ itemsB b1 b2 b4 b16; omega, ihi, i8⟩, hf, hd⟩
    · have hP : rsParts (rpR n (itemsB b1 b2 b4 b16) f u z d) = partsB b1 b2 b4 b16 f u z d := by
        unfold rsParts partsB rpR
        simp only [i1, i2, i4, i16]
      rw [hP, e0, e1, e2, e3, ← List.prefix_iff_eq_append.1 h41]
      show _ ++ ([41] ++ List.drop 1 l4) = _
      rw [e5]
      simp
  · cases hp
theorem hi_ok {k s : Int} {n : Nat} {g x : List UInt8} (hk : 0 ≤ k ∧ k ≤ 10) (hs : 0 ≤ s ∧ s ≤ 2) (hn : n ≤ 4294967295) : RIok ⟨k, n, g, s, x, 0, 0, 0, 0, []⟩ := by
  refine ⟨?_, hn, ?_, ?_, ?_, ?_, ?_⟩
  · show -9223372036854775808 ≤ k ∧ k ≤ 9223372036854775807
    omega
  · show -9223372036854775808 ≤ s ∧ s ≤ 9223372036854775807
    omega
  · show -9223372036854775808 ≤ (0 : Int) ∧ (0 : Int) ≤ 9223372036854775807
    omega
  · show 0 ≤ 255
    omega
  · show 0 ≤ 4294967295
    omega
  · show 0 ≤ 4294967295
    omega
theorem zero_ok {k : Int} {n : Nat} (hk : k = 1 ∨ k = 2 ∨ k = 3) (hn : n ≤ 4294967295) : RIok ⟨k, n, [], 0, [], 0, 0, 0, 0, []⟩ ∧ rsOk ⟨k, n, [], 0, [], 0, 0, 0, 0, []⟩ = true := by
  refine ⟨hi_ok (by omega) (by omega) hn, ?_⟩
  unfold rsOk rsOwn
  rw [if_pos hk, rsSame_refl, Bool.and_true]
  unfold rsFit
  rw [if_pos hk]
theorem number_some {l t : List UInt8} {q : RI} (h : runP .number l rsZero = some (q, t)) : RIok q ∧ rsOk q = true ∧ [42, 32] ++ l = rsForm q ++ t := by
  rw [runP_next (by simp), Option.bind_eq_some_iff] at h
  obtain ⟨p, hp, h⟩ := h
  simp only [nextP, Option.bind_eq_some_iff] at hp
  obtain ⟨u, hu, hp⟩ := hp
  obtain ⟨hu9, e⟩ := read_dec hu rfl
  obtain ⟨x, hx, e1, e2, e3⟩ := cho_some hp
  rw [e1] at e
  rw [e2, e3] at h
  generalize p.2.1 = l2 at *
  simp only [csN, List.mem_cons, List.not_mem_nil, or_false] at hx
  rcases hx with rfl | rfl | rfl | rfl
  · obtain ⟨rfl, e5⟩ := end_some h
    obtain ⟨z1, z2⟩ := zero_ok (k := 1) (n := u) (by omega) hu9
    refine ⟨z1, z2, ?_⟩
    rw [e, e5]
    simp [rsForm, rsLine, rsWord]
  · obtain ⟨rfl, e5⟩ := end_some h
    obtain ⟨z1, z2⟩ := zero_ok (k := 2) (n := u) (by omega) hu9
    refine ⟨z1, z2, ?_⟩
    rw [e, e5]
    simp [rsForm, rsLine, rsWord]
  · obtain ⟨rfl, e5⟩ := end_some h
    obtain ⟨z1, z2⟩ := zero_ok (k := 3) (n := u) (by omega) hu9
    refine ⟨z1, z2, ?_⟩
    rw [e, e5]
    simp [rsForm, rsLine, rsWord]
  · obtain ⟨k1, k2, k3, k4, k5⟩ := items_some hu9 h
    refine ⟨k1, k2, ?_⟩
    rw [e, k5]
    simp [rsForm, rsLine, k3, k4]
theorem text_ok {k : Int} {x : List UInt8} (hk : k = 6 ∨ k = 7 ∨ k = 8 ∨ k = 10) (hx : txtL x = true) : RIok ⟨k, 0, [], 0, x, 0, 0, 0, 0, []⟩ ∧ rsOk ⟨k, 0, [], 0, x, 0, 0, 0, 0, []⟩ = true := by
  refine ⟨hi_ok (by omega) (by omega) (by omega), ?_⟩
  unfold rsOk
  have ho : rsOwn ⟨k, 0, [], 0, x, 0, 0, 0, 0, []⟩ = ⟨k, 0, [], 0, x, 0, 0, 0, 0, []⟩ := by
    rw [own_hi (by show 5 ≤ k; omega), if_neg (by show ¬ k = 5; omega), if_neg (by show ¬ k = 9; omega)]
  rw [ho, rsSame_refl, Bool.and_true]
  unfold rsFit
  rw [if_neg (by show ¬ (k = 1 ∨ k = 2 ∨ k = 3); omega), if_neg (by show ¬ k = 4; omega), if_neg (by show ¬ k = 5; omega), if_neg (by show ¬ k = 9; omega), if_pos hk]
  exact hx
/-- WHAT IS READ IS WHAT WAS WRITTEN. -/
theorem run_some {l t : List UInt8} {q : RI} (h : runP .begin l rsZero = some (q, t)) : RIok q ∧ rsOk q = true ∧ l = rsForm q ++ t := by
  rw [runP_next (by simp), Option.bind_eq_some_iff] at h
  obtain ⟨p, hp, h⟩ := h
  obtain ⟨x, hx, e1, e2, e3⟩ := cho_some (show choP csB l rsZero = some p from hp)
  rw [e2, e3] at h
  generalize p.2.1 = l2 at *
  simp only [csB, List.mem_cons, List.not_mem_nil, or_false] at hx
  rcases hx with rfl | rfl | rfl
  · clear hp
    rw [show runP (Cw.st ⟨[42, 32], 0, .untagged⟩) l2 { rsZero with kind := Cw.kind ⟨[42, 32], 0, .untagged⟩ } = runP .untagged l2 rsZero from rfl, runP_next (by simp), Option.bind_eq_some_iff] at h
    obtain ⟨p2, hp, h⟩ := h
    obtain ⟨x, hx, f1, f2, f3⟩ := cho_some (show choP csU l2 rsZero = some p2 from hp)
    rw [f2, f3] at h
    generalize p2.2.1 = l3 at *
    rw [e1, f1]
    simp only [csU, List.mem_cons, List.not_mem_nil, or_false] at hx
    rcases hx with rfl | rfl | rfl | rfl | rfl
    · obtain ⟨x, hx, e5, rfl⟩ := text_some h
      obtain ⟨z1, z2⟩ := text_ok (k := 6) (by omega) hx
      refine ⟨z1, z2, ?_⟩
      rw [e5]
      simp [rsForm, rsLine, rsPre]
    · obtain ⟨x, hx, e5, rfl⟩ := text_some h
      obtain ⟨z1, z2⟩ := text_ok (k := 7) (by omega) hx
      refine ⟨z1, z2, ?_⟩
      rw [e5]
      simp [rsForm, rsLine, rsPre]
    · obtain ⟨x, hx, e5, rfl⟩ := text_some h
      obtain ⟨z1, z2⟩ := text_ok (k := 8) (by omega) hx
      refine ⟨z1, z2, ?_⟩
      rw [e5]
      simp [rsForm, rsLine, rsPre]
    · obtain ⟨rfl, e5⟩ := end_some h
      refine ⟨hi_ok (k := 5) (s := 0) (n := 0) (g := []) (x := []) (by omega) (by omega) (by omega), by decide +kernel, ?_⟩
      rw [e5]
      simp [rsForm, rsLine]
    · exact number_some h
  · obtain ⟨x, hx, e5, rfl⟩ := text_some h
    obtain ⟨z1, z2⟩ := text_ok (k := 10) (by omega) hx
    refine ⟨z1, z2, ?_⟩
    rw [e1, e5]
    simp [rsForm, rsLine, rsPre]
  · obtain ⟨g, s, x, hg, hs, hx, e5, rfl⟩ := tag_some h
    refine ⟨hi_ok (k := 9) (s := s) (n := 0) (g := g) (x := x) (by omega) hs (by omega), ?_, ?_⟩
    · unfold rsOk
      have ho : rsOwn ⟨9, 0, g, s, x, 0, 0, 0, 0, []⟩ = ⟨9, 0, g, s, x, 0, 0, 0, 0, []⟩ := by
        rw [own_hi (by show (5 : Int) ≤ 9; omega), if_neg (by show ¬ (9 : Int) = 5; omega), if_pos rfl]
      show (rsFit ⟨9, 0, g, s, x, 0, 0, 0, 0, []⟩ && rsSame ⟨9, 0, g, s, x, 0, 0, 0, 0, []⟩ (rsOwn ⟨9, 0, g, s, x, 0, 0, 0, 0, []⟩)) = true
      rw [ho, rsSame_refl, Bool.and_true]
      unfold rsFit
      rw [if_neg (by show ¬ ((9 : Int) = 1 ∨ (9 : Int) = 2 ∨ (9 : Int) = 3); omega), if_neg (by show ¬ (9 : Int) = 4; omega), if_neg (by show ¬ (9 : Int) = 5; omega), if_pos rfl]
      simp only [Bool.and_eq_true, decide_eq_true_eq]
      exact ⟨hg, hx, hs⟩
    · rw [e1, e5]
      simp [rsForm, rsLine]
end Go.Proofs.YtpoejnajnaolpaaGreatDoor
