/- seqset: Print. -/
import Derived.Test.YtdgcghcigjblaaaDoorSeqPrint
namespace Go.Proofs.YtdgcghcigjblaaaDoor
open Go.RowKit Go.Shelf Go.Sort

def prTail (l : List R) : List UInt8 := l.flatMap fun r => 44 :: formR r
/-- The form of a set. -/
def printL : List R → List UInt8
  | [] => []
  | r :: l => formR r ++ prTail l
theorem printL_snoc (l : List R) (r : R) : printL (l ++ [r]) = printL l ++ ((if 0 < l.length then [44] else []) ++ formR r) := by
  cases l with
  | nil => simp [printL, prTail]
  | cons q l => simp [printL, prTail]
theorem printL_take (l : List R) (k : Nat) (h : k < l.length) : printL (l.take (k + 1)) = printL (l.take k) ++ ((if 0 < k then [44] else []) ++ formR l[k]) := by
  rw [List.take_succ_eq_append_getElem h, printL_snoc, List.length_take, Nat.min_eq_left (by omega)]
theorem printL_len (l : List R) (hb : ∀ r ∈ l, r.1 ≤ 4294967295 ∧ r.2 ≤ 4294967295) : ∀ k, k ≤ l.length → (printL (l.take k)).length ≤ 22 * k
  | 0, _ => by simp [printL]
  | k + 1, h => by
    have ih := printL_len l hb k (by omega)
    have hr := hb l[k] (List.getElem_mem _)
    have hf := formR_len hr.1 hr.2
    rw [printL_take l k (by omega), List.length_append, List.length_append]
    have : (if 0 < k then [(44 : UInt8)] else []).length ≤ 1 := by split <;> simp
    omega

set_option maxRecDepth 100000 in
set_option maxHeartbeats 2000000 in
theorem print_any (A : Option Addr) (c : Nat) (l : List R) (hn : l.length ≤ 1000000000) (hb : ∀ r ∈ l, r.1 ≤ 4294967295 ∧ r.2 ≤ 4294967295) (w : World) (hS : SlAt encR 2 w A l) (henv : Env w) :
    Calls Tryd.prog 9 #[.slice A l.length c] w fun e w' => e = .returned (.string ⟨(printL l).toArray⟩) ∧ Below w.heap.size w w' := by
  have HS := Lib.hid hS
  have HE := fun w1 (hB : Below w.heap.size w w1) => Lib.hid (henv.below hB)
  have HBd := Lib.hid hb
  clear hS henv hb
  go_enter Tryd.func9, Tryd.ntmps9
  go_wp2_with fail
  go_loopw [8] (fun i wr => ∃ k : Nat, k ≤ l.length ∧ i = .int .i64 k ∧ IsB w.heap.size w.heap.size (printL (l.take k)) wr ∧ Below w.heap.size w wr)
    (fun i _ => l.length - (intOf i).toNat)
  case atStart =>
    refine ⟨0, Nat.zero_le _, rfl, .inl ⟨Nat.le_refl _, .slice none 0 0, by simpa using heap_alloc_new w _, World.ownsRow_nil _ _ _ _, by simp [Value.ownBlock]⟩, (Below.refl _ _).alloc (Nat.le_refl _) _⟩
  case round =>
    obtain ⟨k, hk, rfl, hI, hB⟩ := hrel
    by_cases hlt : k < l.length
    · obtain ⟨b, off, rfl, hbl, hc0, hc1⟩ := (HS.out.below hB).pair hlt
      have hbr := HBd.out l[k] (List.getElem_mem _)
      have HT := Lib.hid (printL_take l k hlt)
      have hpl := printL_len l HBd.out k hk
      have HI := Lib.hid hI
      clear hI HBd HS
      generalize l[k] = r at *
      generalize printL (l.take k) = P at *
      obtain ⟨lo, hi⟩ := r
      dsimp only at hc0 hc1 hbr
      have hfl := formR_len (r := (lo, hi)) hbr.1 hbr.2
      have hBs := hB.size
      have HB1 := hB.alloc hBs (.cells #[.int .u32 (lo : Int), .int .u32 (hi : Int)] 32)
      have HI1 := Lib.hid (HI.out.below ((Below.refl _ wr).alloc (Nat.le_refl _) (.cells #[.int .u32 (lo : Int), .int .u32 (hi : Int)] 32)))
      have HX1 := Lib.hid (World.alloc_heap_new wr (.cells #[.int .u32 (lo : Int), .int .u32 (hi : Int)] 32))
      by_cases h0 : 0 < k
      · have WB := Lib.hid (writeByte_any _ _ P 44 _ HI1.out (by omega) (by simp; omega))
        have PR := fun w1 (hB : Below w.heap.size w w1) (he : Hid (Env w1)) => Lib.hid (printRange_any lo hi hbr.1 hbr.2 w1 he.out)
        clear HI HI1
        generalize formR (lo, hi) = f at *
        go_wp2_with fail
        refine WB.out.mono ?_
        rintro e w2 ⟨rfl, hI2, hB2, hk2⟩
        have hx2 := (hk2 32 (by decide) (by decide)).box HX1.out
        have hc2 : w2.cell? ⟨wr.heap.size, 0, none⟩ = some (.int .u32 (lo : Int)) := box_cell hx2 0 _ rfl
        have hc3 : w2.cell? ⟨wr.heap.size, 1, none⟩ = some (.int .u32 (hi : Int)) := box_cell hx2 1 _ rfl
        have HBn := HB1.trans hB2
        have HEn := HE _ HBn
        have HI2 := Lib.hid hI2
        clear hI2 hB2 hk2 hx2 WB HX1 HB1 HE
        go_wp2_with fail
        refine (PR _ HBn HEn).out.mono ?_
        rintro e w3 ⟨rfl, h3⟩
        have HI3 := Lib.hid (HI2.out.below h3)
        have HB3 := HBn.trans (h3.mono HBn.size)
        clear PR HI2 HEn h3
        have hsz3 := HB3.size
        have WS := Lib.hid (writeString_any _ _ _ ⟨f.toArray⟩ _ HI3.out (by simp [ByteArray.size]; omega) (by omega))
        clear HI3 HBn
        go_wp2_with fail
        refine WS.out.mono ?_
        rintro e w4 ⟨rfl, hI4, hB4, -⟩
        have HB4 := HB3.trans hB4
        have HI4 := Lib.hid hI4
        clear hI4 hB4 WS HB3
        go_wp2_with fail
        go_roundw
        case rel => exact ⟨k + 1, by omega, by go_num, by rw [HT.out, if_pos h0, ← List.append_assoc]; exact HI4.out, HB4⟩
        case measure => simp [intOf]; omega
      · have PR := fun w1 (hB : Below w.heap.size w w1) (he : Hid (Env w1)) => Lib.hid (printRange_any lo hi hbr.1 hbr.2 w1 he.out)
        have HI2 := HI1
        have HBn := HB1
        have HEn := HE _ HBn
        clear HI HI1 HX1 HB1 HE
        generalize formR (lo, hi) = f at *
        go_wp2_with fail
        refine (PR _ HBn HEn).out.mono ?_
        rintro e w3 ⟨rfl, h3⟩
        have HI3 := Lib.hid (HI2.out.below h3)
        have HB3 := HBn.trans (h3.mono HBn.size)
        clear PR HI2 HEn h3
        have hsz3 := HB3.size
        have WS := Lib.hid (writeString_any _ _ _ ⟨f.toArray⟩ _ HI3.out (by simp [ByteArray.size]; omega) (by omega))
        clear HI3 HBn
        go_wp2_with fail
        refine WS.out.mono ?_
        rintro e w4 ⟨rfl, hI4, hB4, -⟩
        have HB4 := HB3.trans hB4
        have HI4 := Lib.hid hI4
        clear hI4 hB4 WS HB3
        go_wp2_with fail
        go_roundw
        case rel => exact ⟨k + 1, by omega, by go_num, by rw [HT.out, if_neg h0, List.nil_append]; exact HI4.out, HB4⟩
        case measure => simp [intOf]; omega
    · obtain rfl : k = l.length := by omega
      rw [List.take_length] at hI
      have S := Lib.hid (builderString_any _ _ _ _ hI hB.size)
      clear hI HE HS HBd
      have HF : ∃ f, f = printL l := ⟨_, rfl⟩
      obtain ⟨f, hf⟩ := HF
      rw [← hf] at S
      have HF := Lib.hid hf
      clear hf
      go_wp2_with fail
      refine S.out.mono ?_
      rintro e w1 ⟨rfl, h1⟩
      clear S
      go_wp2_with fail
      go_ret
      exact ⟨by rw [← HF.out]; rfl, hB.trans h1⟩
end Go.Proofs.YtdgcghcigjblaaaDoor
