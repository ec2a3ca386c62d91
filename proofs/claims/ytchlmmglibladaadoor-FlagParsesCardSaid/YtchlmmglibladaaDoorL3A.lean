/- The walks of the laws FlagNames, FlagParses, FlagLists. -/
import Derived.Test.YtchlmmglibladaaDoorAlive3
namespace Go.Proofs.YtchlmmglibladaaDoor
open Go.RowKit

/-- The flags of the first k single ones together. -/
def orK (l : List Nat) (k : Nat) : Nat := (l.take k).foldl (fun a x => a ||| x) 0
theorem orK_next (l : List Nat) (k : Nat) (h : k < l.length) : orK l (k + 1) = orK l k ||| l[k] := by
  unfold orK
  rw [List.take_succ_eq_append_getElem h, List.foldl_append]; rfl
def rises (l : List Nat) : Bool := (List.range l.length).all fun k => decide (orK l k < l.getD k 0)
theorem each_rises : ∀ f : Fin 256, rises (eachL f.val) = true := by decide +kernel
def bitsIn (f : Nat) (l : List Nat) : Bool := l.all fun x => decide (f &&& x ≠ 0)
theorem each_bits : ∀ f : Fin 256, bitsIn f.val (eachL f.val) = true := by decide +kernel
theorem orK_lt (f k : Nat) : orK (eachL f) k < 32 := by
  have h : ∀ (xs : List Nat) (a : Nat), (∀ x ∈ xs, x ∈ ones) → a < 32 → xs.foldl (fun a x => a ||| x) a < 32 := by
    intro xs
    induction xs with
    | nil => intro a _ h; exact h
    | cons x xs ih =>
      intro a hx ha
      exact ih _ (fun y hy => hx y (by simp [hy])) (Nat.or_lt_two_pow (n := 5) ha (by rcases ones_mem.1 (hx x (by simp)) with e | e | e | e | e <;> omega))
  exact h _ 0 (fun x hx => eachL_ones (List.take_subset _ _ hx)) (by decide)

set_option maxRecDepth 100000 in
set_option maxHeartbeats 2000000 in
theorem flagNames_any (f : Nat) (hf : f ≤ 255) (w : World) :
    Calls Tryd.prog 3 #[.int .u8 f] w fun e w' => e = .returned (.bool true) ∧ Below w.heap.size w w' := by
  have L := Lib.hid (fun w1 => alive3_any w1)
  have E := Lib.hid (each_any f (by omega) w)
  have NM := Lib.hid (fun n (hn : n ≤ 255) w1 => name_any n hn w1)
  have RN := Lib.hid (fun w1 => refName_any f w1)
  have hlE : (eachL f).length ≤ 5 := eachK_len f 5
  have HON := Lib.hid (show ∀ x ∈ eachL f, x ∈ ones from fun x hx => eachL_ones hx)
  have HR := Lib.hid (show ∀ k (h : k < (eachL f).length), orK (eachL f) k < (eachL f)[k] from fun k h => by
    have := each_rises ⟨f, by omega⟩
    unfold rises at this
    rw [List.all_eq_true] at this
    have h2 := this k (List.mem_range.2 h)
    have h3 := of_decide_eq_true h2
    rw [List.getD_eq_getElem?_getD, List.getElem?_eq_getElem h] at h3
    exact h3)
  have HB := Lib.hid (show ∀ k (h : k < (eachL f).length), f &&& (eachL f)[k] ≠ 0 from fun k h => by
    have := each_bits ⟨f, by omega⟩
    unfold bitsIn at this
    rw [List.all_eq_true] at this
    simpa using this _ (List.getElem_mem h))
  have HK := Lib.hid (fun k => orK_lt f k)
  have HA := Lib.hid (show orK (eachL f) (eachL f).length = f &&& 31 by unfold orK; rw [List.take_length]; exact each_or ⟨f, by omega⟩)
  generalize eachL f = l at *
  go_enter Tryd.func3, Tryd.ntmps3
  go_wp2_with fail
  refine E.out.mono ?_
  rintro e w1 ⟨v, rfl, hr, hb⟩
  obtain ⟨A, c, rfl⟩ := own_any hr
  have HS := Lib.hid (SlAt.of_own encF_len hr)
  clear hr E
  go_wp2_with fail
  go_loopw [3, 9] (fun a i wr => ∃ k : Nat, k ≤ l.length ∧ i = .int .i64 k ∧ a = .int .u8 (orK l k : Nat) ∧ Below w.heap.size w wr ∧ Hid (SlAt encF 1 wr A l))
    (fun _ i _ => l.length - (intOf i).toNat)
  case atStart => exact ⟨0, Nat.zero_le _, rfl, rfl, hb, HS⟩
  case round =>
    obtain ⟨k, hk, rfl, rfl, hB, hS⟩ := hrel
    by_cases hlt : k < l.length
    · obtain ⟨b, off, rfl, hbl, hc0⟩ := hS.out.oneF hlt
      have ho := HON.out _ (List.getElem_mem hlt)
      have hx16 : l[k] ≤ 255 := by rcases ones_mem.1 ho with e | e | e | e | e <;> omega
      have hlo := HR.out k hlt
      have hall := HK.out k
      have hnx := HB.out k hlt
      have HN := Lib.hid (orK_next l k hlt)
      have hne : (nameF l[k]).isEmpty = false := by simpa using name_ne ho
      generalize l[k] = x at *
      generalize orK l k = a at *
      have e1 := u8_or_nat a x (by omega) (by omega)
      have e2 : (bits BinOp.and IntKind.u8 (f : Int) (x : Int) == 0) = false := by
        rw [u8_and_nat f x (by omega) (by omega)]
        simp only [beq_eq_false_iff_ne, ne_eq, Int.natCast_eq_zero]
        exact hnx
      have e3 : decide (x ≤ a) = false := by simpa using hlo
      clear hnx ho
      go_wp2_with fail
      refine (NM.out x hx16 _).mono ?_
      rintro e w2 ⟨rfl, h⟩
      have hB2 := hB.trans (h.mono hB.size)
      have hS2 := Lib.hid (hS.out.below h)
      clear h
      go_wp2_with fail
      go_roundw
      case rel => exact ⟨k + 1, by omega, by go_num, by rw [HN.out], hB2, hS2⟩
      case measure => simp [intOf]; omega
    · obtain rfl : k = l.length := by omega
      rw [HA.out]
      have e1 : bits BinOp.and IntKind.u8 (f : Int) 31 = ((f &&& 31 : Nat) : Int) := u8_and_nat f 31 (by omega) (by omega)
      have NF := Lib.hid (fun w1 => NM.out f hf w1)
      generalize nameF f = nf at *
      clear HON HR HB HK HA HS hS
      go_wp2_with fail
      refine (L.out _).mono ?_
      rintro e w2 ⟨rfl, h⟩
      replace hB := hB.trans (h.mono hB.size)
      clear h
      go_wp2_with fail
      refine (NF.out _).mono ?_
      rintro e w3 ⟨rfl, h⟩
      replace hB := hB.trans (h.mono hB.size)
      clear h
      go_wp2_with fail
      refine (RN.out _).mono ?_
      rintro e w4 ⟨rfl, rfl⟩
      go_wp2_with fail
      go_ret
      exact ⟨rfl, hB⟩

set_option maxRecDepth 100000 in
set_option maxHeartbeats 2000000 in
theorem flagParses_any (s : ByteArray) (hs : s.size ≤ maxLen) (w : World) :
    Calls Tryd.prog 4 #[.string s] w fun e w' => e = .returned (.bool true) ∧ Below w.heap.size w w' := by
  have L := Lib.hid (fun w1 => alive3_any w1)
  unfold maxLen at hs
  by_cases hbig : s.size ≤ 1000
  · have P := Lib.hid (fun w1 => fparse_any s (by omega) w1)
    have R := Lib.hid (fun w1 => refParse_any s (by omega) w1)
    have hlt : ∀ x, parseF s.data.toList = some x → x < 32 := by
      intro x hx
      unfold parseF at hx
      split at hx
      · injection hx with hx; omega
      · split at hx
        · unfold namesO at hx
          split at hx
          · injection hx with hx; rw [← hx]; exact orF_lt _
          · cases hx
        · cases hx
    generalize parseF s.data.toList = o at *
    have hb1 : (s.size : Int) ≤ 1000 := by omega
    cases o with
    | none =>
      rw [show refO none = -1 from rfl] at R
      rw [show ((none : Option Nat).getD 0 : Nat) = 0 from rfl, show (none : Option Nat).isSome = false from rfl] at P
      clear hlt hbig
      go_enter Tryd.func4, Tryd.ntmps4
      go_wp2_with fail
      refine (P.out _).mono ?_
      rintro e w1 ⟨rfl, hb⟩
      go_wp2_with fail
      refine (R.out _).mono ?_
      rintro e w2 ⟨rfl, h⟩
      replace hb := below_next hb h
      clear h
      go_wp2_with fail
      refine (L.out _).mono ?_
      rintro e w3 ⟨rfl, h⟩
      replace hb := below_next hb h
      clear h
      go_wp2_with fail
      go_ret
      exact ⟨rfl, hb⟩
    | some x =>
      have hx := hlt x rfl
      rw [show refO (some x) = (x : Int) from rfl] at R
      rw [show ((some x).getD 0 : Nat) = x from rfl, show (some x).isSome = true from rfl] at P
      clear hlt hbig
      go_enter Tryd.func4, Tryd.ntmps4
      go_wp2_with fail
      refine (P.out _).mono ?_
      rintro e w1 ⟨rfl, hb⟩
      go_wp2_with fail
      refine (R.out _).mono ?_
      rintro e w2 ⟨rfl, h⟩
      replace hb := below_next hb h
      clear h
      go_wp2_with fail
      refine (L.out _).mono ?_
      rintro e w3 ⟨rfl, h⟩
      replace hb := below_next hb h
      clear h
      go_wp2_with fail
      go_ret
      exact ⟨rfl, hb⟩
  · have hb1 : (1000 : Int) < s.size := by omega
    have hb2 : (s.size : Int) ≤ 9223372036854775807 := by omega
    clear hbig
    go_enter Tryd.func4, Tryd.ntmps4
    go_wp2_with fail
    refine (L.out _).mono ?_
    rintro e w1 ⟨rfl, hb⟩
    go_wp2_with fail
    go_ret
    exact ⟨rfl, hb⟩

set_option maxRecDepth 100000 in
set_option maxHeartbeats 2000000 in
theorem flagLists_any (f : Nat) (hf : f ≤ 255) (w : World) :
    Calls Tryd.prog 5 #[.int .u8 f] w fun e w' => e = .returned (.bool true) ∧ Below w.heap.size w w' := by
  have L := Lib.hid (fun w1 => alive3_any w1)
  have LI := Lib.hid (fun w1 => list_any f (by omega) w1)
  have RL := Lib.hid (fun w1 => refList_any f (by omega) w1)
  have hll : (listL f).length ≤ 100 := by
    unfold listL
    have h1 := sp_len (eachL f)
    have h2 : (eachL f).length ≤ 5 := eachK_len f 5
    rw [List.length_cons, List.length_append]
    simp only [List.length_cons, List.length_nil]
    omega
  have P := fun w1 => fparse_any ⟨(listL f).toArray⟩ (by rw [mk_size]; omega) w1
  have hp : parseF (ByteArray.mk (listL f).toArray).data.toList = some (f &&& 31) := parse_printed f (by omega)
  rw [hp] at P
  have P := Lib.hid P
  clear hp hll
  have e1 : bits BinOp.and IntKind.u8 (f : Int) 31 = ((f &&& 31 : Nat) : Int) := u8_and_nat f 31 (by omega) (by omega)
  generalize listL f = l at *
  go_enter Tryd.func5, Tryd.ntmps5
  go_wp2_with fail
  refine (LI.out _).mono ?_
  rintro e w1 ⟨rfl, hb⟩
  go_wp2_with fail
  refine (P.out _).mono ?_
  rintro e w2 ⟨rfl, h⟩
  replace hb := below_next hb h
  clear h
  go_wp2_with fail
  refine (L.out _).mono ?_
  rintro e w3 ⟨rfl, h⟩
  replace hb := below_next hb h
  clear h
  go_wp2_with fail
  refine (RL.out _).mono ?_
  rintro e w4 ⟨rfl, rfl⟩
  go_wp2_with fail
  go_ret
  exact ⟨rfl, hb⟩
end Go.Proofs.YtchlmmglibladaaDoor
