/- command: flags, items. -/
import Derived.Test.YthfopimgdikpgaaGreatDoorPsrM
import Derived.Test.YthfopimgdikpgaaGreatDoorGu
import Derived.Shelf.Strings.OnBuilder
namespace Go.Proofs.YthfopimgdikpgaaGreatDoor
open Go.RowKit Go.Maps Go.Shelf

theorem spL_len : ∀ (ns : List (List UInt8)), (∀ p ∈ ns, p.length ≤ 9000) → (spL ns).length ≤ ns.length * 9001
  | [], _ => by simp [spL_nil]
  | [p], h => by rw [spL_one]; have := h p (by simp); simp; omega
  | p :: q :: ps, h => by
    have ih := spL_len (q :: ps) (fun x hx => h x (by simp [hx]))
    have := h p (by simp)
    rw [spL_cons]
    simp only [List.length_append, List.length_cons] at ih ⊢
    omega

/-- strings.Join at a row of the call's own. -/
theorem joinS_any (ns : List (List UInt8)) (v : Value) (base : Nat) (w : World) (hO : w.ownsRow base 9 1 v ns.length (flatL encS ns)) (hn : ns.length ≤ 100000) (hs : (spL ns).length ≤ 1000000000) :
    Calls Tryz.prog 101 #[v, .string ⟨#[32]⟩] w fun e w' => e = .returned (.string ⟨(spL ns).toArray⟩) ∧ Below w.heap.size w w' := by
  by_cases hnil : ns = []
  · subst hnil
    obtain ⟨A', c', rfl⟩ := own_any hO
    exact (Any.strings_Join_none Tryz.lays156 Tryz.Builder_Extra_156 A' c' ⟨#[32]⟩ w).mono fun e w' ⟨he, hw⟩ => ⟨he, hw ▸ Below.refl _ _⟩
  · have hpos : 0 < ns.length := List.length_pos_iff.2 hnil
    obtain ⟨xs, hxs⟩ : ∃ xs : List ByteArray, xs = ns.map fun x => ByteArray.mk x.toArray := ⟨_, rfl⟩
    have hxl : xs.length = ns.length := by rw [hxs, List.length_map]
    have hxm : xs.map (fun x => x.data.toList) = ns := by rw [hxs, List.map_map]; simp [Function.comp_def]
    obtain ⟨g, cap, rfl, hg, hcap⟩ : ∃ g cap, v = .slice (some ⟨g, 0, none⟩) ns.length cap ∧ g < w.heap.size ∧ ns.length ≤ cap := by
      rcases hO.2 with ⟨rfl, h⟩ | ⟨g, cap, cur, rfl, h1, h2, h3, h4, h5, h6⟩
      · omega
      · exact ⟨g, cap, rfl, (Array.getElem?_eq_some_iff.1 h2).1, by first | exact h3 | exact h5 | omega⟩
    have J := Any.strings_Join Tryz.lays156 Tryz.Builder_Extra_156 g 0 cap xs ⟨#[32]⟩ w (fun j x hx => by
      have h1 : (flatL encS ns)[j]? = some (.string x) := by
        have h2 : ns[j]? = some x.data.toList := by rw [← hxm, List.getElem?_map, hx]; rfl
        have := flatL_at encS_len ns j _ h2 0 (.string x) (by simp [encS])
        simpa using this
      have := hO.cells (g := g) rfl j _ h1
      rw [Addr.add_lit] at this
      exact this) hg (by omega) (by omega) (by rw [hxm]; show (spL ns).length ≤ _; omega)
    rw [hxl, hxm] at J
    exact J

/-- Names out of words. -/
def NmOk (ns : List (List UInt8)) : Prop := ns.length ≤ 9001 ∧ ∀ p ∈ ns, p.length ≤ 9000 ∧ p ≠ [] ∧ (32 : UInt8) ∉ p
theorem flags_list {ns : List (List UInt8)} (h : NmOk ns) : parseF (40 :: (spL ns ++ [41])) = flagsO ns := by
  unfold flagsO
  by_cases hn : ns = []
  · subst hn
    rw [if_pos rfl, spL_nil]
    rfl
  · rw [if_neg hn]
    obtain ⟨p, hp⟩ := List.exists_mem_of_ne_nil ns hn
    exact parse_list hn (fun x hx => (h.2 x hx).2.2) ⟨p, hp, (h.2 p hp).2.1⟩
theorem flagsO_lt {ns : List (List UInt8)} {g : Nat} (h : flagsO ns = some g) : g < 32 := by
  unfold flagsO at h
  split at h
  · simp at h; omega
  · unfold namesO at h
    split at h
    · simp at h; rw [← h]; exact orF_lt ns
    · cases h

theorem cat_list (sp : List UInt8) : (ByteArray.mk #[40] ++ ByteArray.mk sp.toArray ++ ByteArray.mk #[41]).data.toList = 40 :: (sp ++ [41]) := by
  simp [ByteArray.data_append]
theorem cat_size (sp : List UInt8) : (ByteArray.mk #[40] ++ ByteArray.mk sp.toArray ++ ByteArray.mk #[41]).size = sp.length + 2 := by
  rw [ByteArray.size_append, ByteArray.size_append]
  show 1 + sp.toArray.size + 1 = _
  simp; omega

set_option maxRecDepth 100000 in
set_option maxHeartbeats 2000000 in
theorem pflags_any (bs base : Nat) {tv sv dv v : Value} {ts : List Tok} {c : Cmd} {ns : List (List UInt8)} (w : World) (hns : NmOk ns) (hO : w.ownsRow base 9 1 v ns.length (flatL encS ns)) (h : Ps bs w.heap.size tv ts c sv dv w) :
    Calls Tryz.prog 85 #[.pointer (some ⟨bs, 0, none⟩), v] w (MPost bs ((flagsO ns).map fun g => ({ c with flags := g }, ts)) w) := by
  have NT := Lib.hid (fun w1 => need_t w1)
  have NF := Lib.hid (fun w1 => need_f w1)
  have hsl : (spL ns).length ≤ 90000000 := by
    have h1 := spL_len ns (fun p hp => (hns.2 p hp).1)
    have h2 := hns.1
    have : ns.length * 9001 ≤ 9001 * 9001 := Nat.mul_le_mul_right _ h2
    omega
  have JN := Lib.hid (joinS_any ns v base w hO (by have := hns.1; omega) (by omega))
  have FP := fun W => fparse_any (ByteArray.mk #[40] ++ ByteArray.mk (spL ns).toArray ++ ByteArray.mk #[41]) (by rw [cat_size]; omega) W
  rw [cat_list, flags_list hns] at FP
  have HLT : Hid (∀ g, flagsO ns = some g → g < 32) := Lib.hid (fun g => flagsO_lt)
  generalize flagsO ns = fo at *
  generalize spL ns = sp at *
  have FP := Lib.hid FP
  have HP := Lib.hid h
  obtain ⟨A', c', rfl⟩ := own_any hO
  clear h hns hO
  go_enter Tryz.func85, Tryz.ntmps85
  go_wp2_with fail
  refine JN.out.mono ?_
  rintro e w1 ⟨rfl, hb1⟩
  have HP1 := Lib.hid (HP.out.grow hb1)
  have HG1 := Lib.hid (grown_of_below (row := some bs) hb1)
  clear hb1 HP JN
  go_wp2_with fail
  refine (FP.out _).mono ?_
  rintro e w2 ⟨rfl, hb2⟩
  have HP2 := Lib.hid (HP1.out.grow hb2)
  have HG2 := Lib.hid (HG1.out.trans (grown_of_below hb2))
  clear hb2 HP1 HG1 FP
  cases fo with
  | none =>
    simp only [Option.getD_none, Option.isSome_none]
    go_wp2_with fail
    refine (NF.out _).mono ?_
    rintro e w3 ⟨rfl, rfl⟩
    exact ⟨rfl, .inr ⟨Lib.hid rfl, rfl, HG2⟩⟩
  | some g =>
    have hg := HLT.out g rfl
    simp only [Option.getD_some, Option.isSome_some]
    have hp := HP2.out.here
    have f8 := Joins.unfrozen_of_block hp.blk 8
    have c8 := hp.cell 8 _ rfl
    have HP3 := Lib.hid (hp.set_ 8 (.int .u8 (g : Int)) (c' := { c with flags := g }) rfl hp.toks hp.sets hp.dats hp.snew hp.dnew)
    have HG3 := Lib.hid (HG2.out.trans (grown_set (World.grownBy.refl w2 (some bs)) 8 (.int .u8 (g : Int))))
    clear hp HP2 HG2
    go_wp2_with fail
    refine (NT.out _).mono ?_
    rintro e w3 ⟨rfl, rfl⟩
    go_wp2_with fail
    first | go_end0 | refine bodyPost_ret (results_none rfl _ _ _) rfl ?_
    exact .inl ⟨_, ts, tv, sv, dv, Lib.hid rfl, rfl, Lib.hid HP3.out.here, HG3⟩

theorem orI_snoc (ps : List (List UInt8)) (p : List UInt8) : orI (ps ++ [p]) = orI ps ||| itemL p := by simp [orI]
theorem itemL_le (p : List UInt8) : itemL p ≤ 16 := itemU_le _

set_option maxRecDepth 100000 in
set_option maxHeartbeats 2000000 in
theorem pitems_any (bs base : Nat) {tv sv dv v : Value} {ts : List Tok} {c : Cmd} {ns : List (List UInt8)} (w : World) (hc0 : c.items = 0) (hbs : bs < base) (hns : NmOk ns) (hO : w.ownsRow base 9 1 v ns.length (flatL encS ns)) (h : Ps bs w.heap.size tv ts c sv dv w) :
    Calls Tryz.prog 88 #[.pointer (some ⟨bs, 0, none⟩), v] w (MPost bs ((itemsO ns).map fun i => ({ c with items := i }, ts)) w) := by
  have NT := Lib.hid (fun w1 => need_t w1)
  have NF := Lib.hid (fun w1 => need_f w1)
  by_cases hnil : ns = []
  · subst hnil
    obtain ⟨A', c', rfl⟩ := own_any hO
    clear h hns hO
    go_enter Tryz.func88, Tryz.ntmps88
    go_wp2_with fail
    refine (NF.out _).mono ?_
    rintro e w3 ⟨rfl, rfl⟩
    exact ⟨rfl, .inr ⟨Lib.hid (by simp [itemsO]), rfl, Lib.hid (World.grownBy.refl _ _)⟩⟩
  · have hpos : 0 < ns.length := List.length_pos_iff.2 hnil
    obtain ⟨g, cap, rfl, hg, hcap⟩ : ∃ g cap, v = .slice (some ⟨g, 0, none⟩) ns.length cap ∧ g < w.heap.size ∧ ns.length ≤ cap := by
      rcases hO.2 with ⟨rfl, h⟩ | ⟨g, cap, cur, rfl, h1, h2, h3, h4, h5, h6⟩
      · omega
      · exact ⟨g, cap, rfl, (Array.getElem?_eq_some_iff.1 h2).1, by first | exact h3 | exact h5 | omega⟩
    have hgb : bs ≠ g := by have := (hO.lt g rfl).1; omega
    have HC : Hid (∀ W, w.grownBy W (some bs) → ∀ k, (hk : k < ns.length) → W.cell? ⟨g, k, none⟩ = some (.string ⟨ns[k].toArray⟩)) := Lib.hid (fun W hW k hk => by
      have h1 : (flatL encS ns)[k]? = some (.string ⟨ns[k].toArray⟩) := by
        have := flatL_at encS_len ns k _ (List.getElem?_eq_getElem hk) 0 (.string ⟨ns[k].toArray⟩) (by simp [encS])
        simpa using this
      have := hO.cells (g := g) rfl k _ h1
      rw [Addr.add_lit, Nat.zero_add] at this
      unfold World.cell? at this ⊢
      rw [hW.block g hg (fun e => hgb (by injection e with e; exact e.symm))]
      exact this)
    have IT := Lib.hid (fun (s : List UInt8) (hs : s.length ≤ 9000) W => item_any ⟨s.toArray⟩ (by show s.toArray.size ≤ _; simp; omega) W)
    obtain ⟨n, hn⟩ : ∃ n, ns.length = n := ⟨_, rfl⟩
    have HN := Lib.hid hn
    have HNS := Lib.hid hns
    have HP := Lib.hid h
    have hn1 : n ≤ 9001 := by have := hns.1; omega
    have hnp : decide (0 < n) = true := by simp; omega
    rw [hn] at hpos ⊢
    have HI0 : Hid (Ps bs w.heap.size tv ts { c with items := orI (ns.take 0) } sv dv w) := Lib.hid (by
      have e : ({ c with items := orI (ns.take 0) } : Cmd) = c := by
        rw [List.take_zero]
        show ({ c with items := 0 } : Cmd) = c
        rw [← hc0]
      rw [e]; exact h)
    clear h hns hn hO hcap hc0 hnil HP
    go_enter Tryz.func88, Tryz.ntmps88
    go_wp2_with fail
    refine (NT.out _).mono ?_
    rintro e w3 ⟨rfl, rfl⟩
    go_wp2_with fail
    go_loopw [14] (fun i wr => ∃ k : Nat, k ≤ n ∧ i = .int .i64 k ∧ Hid (((ns.take k).all fun p => itemL p != 0) = true) ∧ Hid (Ps bs w.heap.size tv ts { c with items := orI (ns.take k) } sv dv wr) ∧ Hid (w.grownBy wr (some bs))) (fun i _ => n - (intOf i).toNat)
    case atStart => exact ⟨0, Nat.zero_le _, rfl, Lib.hid (by simp), HI0, Lib.hid (World.grownBy.refl _ _)⟩
    case round =>
      obtain ⟨k, hk, rfl, hA, hP, hG⟩ := hrel
      clear HI0
      by_cases hlt : k < n
      · have hkl : k < ns.length := by rw [HN.out]; exact hlt
        have ck := HC.out wr hG.out k hkl
        have I1 : Calls Tryz.prog 18 #[.string ⟨ns[k].toArray⟩] wr fun e w' => e = .returned (.tuple #[.int .i64 (itemL ns[k] : Nat), .bool (decide (itemL ns[k] ≠ 0))]) ∧ Below wr.heap.size wr w' := IT.out ns[k] (HNS.out.2 _ (List.getElem_mem hkl)).1 wr
        have htk : ns.take (k + 1) = ns.take k ++ [ns[k]] := List.take_succ_eq_append_getElem hkl
        have hor : orI (ns.take (k + 1)) = orI (ns.take k) ||| itemL ns[k] := by rw [htk, orI_snoc]
        have hall : ((ns.take (k + 1)).all fun p => itemL p != 0) = (itemL ns[k] != 0) := by rw [htk, List.all_append, hA.out]; simp
        have HBAD : Hid (itemL ns[k] = 0 → itemsO ns = none) := Lib.hid (fun h0 => by
          unfold itemsO
          rw [if_neg]
          rintro ⟨_, h⟩
          have := List.all_eq_true.1 h ns[k] (List.getElem_mem hkl)
          rw [h0] at this
          simp at this)
        have hil := itemL_le ns[k]
        have hol := orI_lt (ns.take k)
        generalize itemL ns[k] = it at *
        generalize ns[k] = nm at *
        have HOR := Lib.hid hor
        have HALL := Lib.hid hall
        have I1 := Lib.hid I1
        clear htk hor hall hkl
        cases hz : decide (it ≠ 0) with
        | false =>
          have h0 : it = 0 := by simpa using hz
          have HB := Lib.hid (HBAD.out h0)
          rw [hz] at I1
          clear h0 hz
          go_wp2_with fail
          refine I1.out.mono ?_
          rintro e w4 ⟨rfl, hb4⟩
          go_wp2_with fail
          refine (NF.out _).mono ?_
          rintro e w5 ⟨rfl, rfl⟩
          exact ⟨rfl, .inr ⟨Lib.hid (by rw [HB.out]; rfl), rfl, Lib.hid (hG.out.trans (grown_of_below hb4))⟩⟩
        | true =>
          have h0 : it ≠ 0 := by simpa using hz
          have hor2 : bits BinOp.or IntKind.i64 ((orI (ns.take k) : Nat) : Int) (it : Int) = ((orI (ns.take (k + 1)) : Nat) : Int) := by rw [i64_or_nat _ _ (by omega) (by omega), HOR.out]
          have HA2 : Hid (((ns.take (k + 1)).all fun p => itemL p != 0) = true) := Lib.hid (by rw [HALL.out]; simpa using h0)
          have HST := Lib.hid (fun W (hp : Ps bs w.heap.size tv ts { c with items := orI (ns.take k) } sv dv W) => hp.set_ 5 (.int .i64 ((orI (ns.take (k + 1)) : Nat) : Int)) (c' := { c with items := orI (ns.take (k + 1)) }) rfl hp.toks hp.sets hp.dats hp.snew hp.dnew)
          generalize orI (ns.take k) = o1 at *
          generalize ho2 : orI (ns.take (k + 1)) = o2 at *
          have HO2 := Lib.hid ho2
          clear ho2
          rw [hz] at I1
          clear h0 hz HBAD HALL HOR hA
          go_wp2_with fail
          refine I1.out.mono ?_
          rintro e w4 ⟨rfl, hb4⟩
          have hp4 := hP.out.grow hb4
          have f5 := Joins.unfrozen_of_block hp4.blk 5
          have c5 := hp4.cell 5 _ rfl
          have HP5 := Lib.hid (HST.out w4 hp4)
          have HG5 := Lib.hid ((hG.out.trans (grown_of_below hb4)).trans (grown_set (World.grownBy.refl w4 (some bs)) 5 (.int .i64 (o2 : Int))))
          clear hp4 hb4 hP hG HST I1 ck
          go_wp2_with fail
          refine (NT.out _).mono ?_
          rintro e w5 ⟨rfl, rfl⟩
          go_wp2_with fail
          go_roundw
          case rel => exact ⟨k + 1, by omega, by go_num, HA2, by rw [HO2.out]; exact HP5, HG5⟩
          case measure => simp [intOf]; omega
      · obtain rfl : k = n := by omega
        have HIT : Hid (itemsO ns = some (orI (ns.take k))) := Lib.hid (by
          have h1 := hA.out
          rw [← HN.out, List.take_length] at h1
          rw [← HN.out, List.take_length]
          unfold itemsO
          rw [if_pos ⟨fun e => by have := HN.out; rw [e] at this; simp at this; omega, h1⟩])
        go_wp2_with fail
        first | go_end0 | refine bodyPost_ret (results_none rfl _ _ _) rfl ?_
        exact .inl ⟨_, ts, tv, sv, dv, Lib.hid (by rw [HIT.out]; rfl), rfl, Lib.hid hP.out.here, hG⟩
end Go.Proofs.YthfopimgdikpgaaGreatDoor
