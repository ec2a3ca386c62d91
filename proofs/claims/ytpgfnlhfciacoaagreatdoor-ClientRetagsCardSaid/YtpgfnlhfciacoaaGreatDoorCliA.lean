/- client: mailbox, names, mode. -/
import Derived.Test.YtpgfnlhfciacoaaGreatDoorText8
import Derived.Test.YtpgfnlhfciacoaaGreatDoorGb
import Derived.Test.YtpgfnlhfciacoaaGreatDoorGw
import Derived.Test.YtpgfnlhfciacoaaGreatDoorGq
import Derived.Test.YtpgfnlhfciacoaaGreatDoorGp
import Derived.Test.YtpgfnlhfciacoaaGreatDoorGa
namespace Go.Proofs.YtpgfnlhfciacoaaGreatDoor
open Go.RowKit Go.Maps

set_option maxRecDepth 100000 in
set_option maxHeartbeats 1000000 in
theorem cmbox_any (s : List UInt8) (hs : s.length ≤ 1000000) (w : World) (henv : Env w) :
    Calls Tryz.prog 163 #[.string ⟨s.toArray⟩] w fun e w' => e = .returned (.string ⟨(mboxT s).toArray⟩) ∧ Below w.heap.size w w' := by
  have hz : (ByteArray.mk s.toArray).size = s.length := bsz s
  have AL := Lib.hid (all_any 180 atomN (fun n W h => atom_any n W h) (fun _ _ => by go_simp) ⟨s.toArray⟩ (by omega) w)
  have HE := Lib.hid henv
  have HD := Lib.hid (show (ByteArray.mk s.toArray).data.toList = s from rfl)
  rw [HD.out] at AL
  cases ha : allL atomN s with
  | true =>
    have HM := Lib.hid (show mboxT s = s by unfold mboxT; rw [if_pos ha])
    rw [ha] at AL
    clear ha henv
    generalize ByteArray.mk s.toArray = sb at *
    go_enter Tryz.func163, Tryz.ntmps163
    go_wp2_with fail
    refine AL.out.mono ?_
    rintro e w1 ⟨rfl, hb⟩
    go_wp2_with fail
    go_ret
    exact ⟨ret_str (str_of (by rw [HM.out]; exact HD.out)), hb⟩
  | false =>
    have HM := Lib.hid (show mboxT s = bestL s by unfold mboxT; rw [if_neg (by rw [ha]; decide)])
    rw [ha] at AL
    clear ha henv
    have CB := Lib.hid (fun W => convB W ⟨s.toArray⟩ s.length hz)
    have BE := Lib.hid (fun (W : World) (c : Nat) (hW : Env W) (h : ByAt W.heap.size W (some ⟨W.heap.size - 1, 0, none⟩) c s) => best_any W.heap.size (some ⟨W.heap.size - 1, 0, none⟩) c s (by omega) W hW h)
    obtain ⟨m, hm⟩ : ∃ m, s.length = m := ⟨_, rfl⟩
    rw [hm] at CB BE
    generalize hsb : ByteArray.mk s.toArray = sb at *
    clear hz hm hsb
    go_enter Tryz.func163, Tryz.ntmps163
    go_wp2_with fail
    refine AL.out.mono ?_
    rintro e w1 ⟨rfl, hb⟩
    have HB1 := Lib.hid hb
    obtain ⟨cap, w2, hr, hb2, hby, hc, hz2, _⟩ := CB.out w1
    have HB2 := Lib.hid (below_next HB1.out hb2)
    have hy : ByAt w2.heap.size w2 (some ⟨w2.heap.size - 1, 0, none⟩) cap s := by
      rw [hz2, Nat.add_sub_cancel, ← hz2]
      rw [HD.out] at hby
      exact hby
    have BW := BE.out w2 cap (HE.out.below HB2.out) hy
    have HZ2 := Lib.hid hz2
    rw [hz2, Nat.add_sub_cancel] at BW
    have BW := Lib.hid BW
    clear hb hb2 hby hc hz2 hy BE CB AL
    go_wp2_with fail
    refine BW.out.mono ?_
    rintro e w3 ⟨A', c', rfl, hy3, hb3⟩
    have HB3 := Lib.hid (below_next HB2.out (HZ2.out ▸ hb3))
    have cv := convS _ w3 A' c' _ (bestL s) hy3 rfl
    generalize (bestL s).length = q at *
    clear hb3 hy3
    go_wp2_with fail
    go_ret
    exact ⟨ret_str (str_of (by rw [HM.out])), HB3.out⟩

def itemsA : Array Value := #[.string ⟨#[70, 76, 65, 71, 83]⟩, .string ⟨#[85, 73, 68]⟩, .string ⟨#[82, 70, 67, 56, 50, 50, 46, 83, 73, 90, 69]⟩, .string ⟨#[66, 79, 68, 89, 46, 80, 69, 69, 75, 91, 93]⟩, .string ⟨#[66, 79, 68, 89, 91, 93]⟩]
theorem itemsA_at (k : Nat) (hk : k < 5) (w : World) : (w.alloc (.cells itemsA 9)).cell? ⟨w.heap.size, k, none⟩ = some (.string ⟨(itemB (2 ^ k)).toArray⟩) := by
  rw [cell_of_row _ w.heap.size k _ _ _ (heap_alloc_new w _)]
  have h : k = 0 ∨ k = 1 ∨ k = 2 ∨ k = 3 ∨ k = 4 := by omega
  rcases h with rfl | rfl | rfl | rfl | rfl <;> rfl
theorem itemL_at {k : Nat} (hk : k < 5) : itemL (itemB (2 ^ k)) = 2 ^ k := by
  have h : k = 0 ∨ k = 1 ∨ k = 2 ∨ k = 3 ∨ k = 4 := by omega
  rcases h with rfl | rfl | rfl | rfl | rfl <;> decide
theorem own_base {w : World} {b base : Nat} {e : TypeId} {size n : Nat} {v : Value} {xs : List Value} (h : w.ownsRow base e size v n xs) (hb : b ≤ base) : w.ownsRow b e size v n xs := by
  refine ⟨h.1, ?_⟩
  rcases h.2 with h0 | ⟨g, cap, cur, rfl, h1, rest⟩
  · exact .inl h0
  · exact .inr ⟨g, cap, cur, rfl, Nat.le_trans hb h1, rest⟩
theorem bitsK_le (f k : Nat) : (bitsK f k).length ≤ k := by
  unfold bitsK
  have h := List.length_filter_le (fun o => f &&& o != 0) (ones.take k)
  rw [List.length_take] at h
  omega

set_option maxRecDepth 100000 in
set_option maxHeartbeats 2000000 in
theorem pnames_any (f : Nat) (hf : f < 256) (w : World) :
    Calls Tryz.prog 168 #[.int .i64 (f : Int)] w fun e w' => ∃ v, e = .returned v ∧ w'.ownsRow w.heap.size 9 1 v ((eachL f).map itemB).length (flatL encS ((eachL f).map itemB)) ∧ Below w.heap.size w w' := by
  obtain ⟨i0, hi, hz0, hz1, hz2⟩ := info_parts infoS
  have IT := Lib.hid (fun s (hs : s.size ≤ 1000000000) W => item_any s hs W)
  have HC := Lib.hid (fun k (hk : k < 5) => itemsA_at k hk w)
  have HB0 := Lib.hid (below_al w (.cells itemsA 9))
  have HZ0 : Hid ((w.alloc (.cells itemsA 9)).heap.size = w.heap.size + 1) := Lib.hid (World.size_alloc w _)
  unfold itemsA at HC HB0 HZ0
  go_enter Tryz.func168, Tryz.ntmps168
  go_wp2_with fail
  generalize hwa : w.alloc (.cells #[.string ⟨#[70, 76, 65, 71, 83]⟩, .string ⟨#[85, 73, 68]⟩, .string ⟨#[82, 70, 67, 56, 50, 50, 46, 83, 73, 90, 69]⟩, .string ⟨#[66, 79, 68, 89, 46, 80, 69, 69, 75, 91, 93]⟩, .string ⟨#[66, 79, 68, 89, 91, 93]⟩] 9) = wA at *
  clear hwa
  go_loopw [3, 10] (fun v i wr => ∃ k : Nat, k ≤ 5 ∧ i = .int .i64 (k : Int) ∧ wr.ownsRow wA.heap.size 9 1 v ((bitsK f k).map itemB).length (flatL encS ((bitsK f k).map itemB)) ∧ Hid (Below wA.heap.size wA wr))
    (fun _ i _ => 5 - (intOf i).toNat)
  case atStart => exact ⟨0, by omega, rfl, World.ownsRow_nil _ _ _ _, Lib.hid (Below.refl _ _)⟩
  case round =>
    obtain ⟨k, hk, rfl, hrow, hB⟩ := hrel
    by_cases hlt : k < 5
    · obtain ⟨hon, _, _⟩ := (show bitAtK k (2 ^ k) from ⟨hk, rfl⟩).ones (by
        have h : k = 0 ∨ k = 1 ∨ k = 2 ∨ k = 3 ∨ k = 4 := by omega
        rcases h with rfl | rfl | rfl | rfl | rfl <;> decide)
      have c0 := (hB.out.cell (p := ⟨w.heap.size, k, none⟩) (by show w.heap.size < _; rw [HZ0.out]; omega)).trans (HC.out k hlt)
      have hk0 : (0 : Int) ≤ (k : Int) := by omega
      have hk1 : (k : Int) < 5 := by omega
      have HS : Hid ((bitsK f (k + 1)).map itemB = (bitsK f k).map itemB ++ (if f &&& 2 ^ k = 0 then [] else [itemB (2 ^ k)])) := Lib.hid (by
        rw [bitsK_succ hon, List.map_append]
        split <;> rfl)
      have hle := bitsK_le f k
      have hlm : ((bitsK f k).map itemB).length ≤ 5 := by rw [List.length_map]; omega
      have hD : (ByteArray.mk (itemB (2 ^ k)).toArray).data.toList = itemB (2 ^ k) := rfl
      have hzi : (ByteArray.mk (itemB (2 ^ k)).toArray).size ≤ 11 := by rw [bsz]; exact itemB_len _
      have IK := IT.out ⟨(itemB (2 ^ k)).toArray⟩ (by omega)
      rw [hD, itemL_at hlt] at IK
      have IK := Lib.hid IK
      have ho32 : 2 ^ k < 256 := by
        have h : k = 0 ∨ k = 1 ∨ k = 2 ∨ k = 3 ∨ k = 4 := by omega
        rcases h with rfl | rfl | rfl | rfl | rfl <;> decide
      have HE : Hid (encS (itemB (2 ^ k)) = [.string ⟨(itemB (2 ^ k)).toArray⟩]) := Lib.hid rfl
      generalize hnb : ByteArray.mk (itemB (2 ^ k)).toArray = nb at *
      clear hnb hD hzi hon hle
      generalize (bitsK f k).map itemB = Q at *
      generalize hQ2 : (bitsK f (k + 1)).map itemB = Q2 at *
      have HQ2 := Lib.hid hQ2
      clear hQ2
      generalize itemB (2 ^ k) = nm at *
      generalize 2 ^ k = o at *
      obtain ⟨A', c', rfl⟩ := own_any hrow
      have HR := Lib.hid hrow
      have hsz := hB.out.size
      clear hrow
      by_cases ht : f &&& o = 0
      · have hb1 : (bits BinOp.and IntKind.i64 (f : Int) (o : Int) != 0) = false := by simp [bne, bit64_yes (o := o) hf ho32 ht]
        have hQ := HS.out
        rw [if_pos ht, List.append_nil] at hQ
        subst hQ
        clear ht HS
        go_wp2_with fail
        refine (IK.out _).mono ?_
        rintro e w1 ⟨rfl, hb⟩
        have HR1 := Lib.hid (own_below HR.out hb)
        have HB1 := Lib.hid (below_next hB.out hb)
        clear hb c0
        go_wp2_with fail
        go_roundw
        case rel => exact ⟨k + 1, by omega, by go_num, by rw [HQ2.out]; exact HR1.out, HB1⟩
        case measure => simp [intOf]; omega
      · have hb1 : (bits BinOp.and IntKind.i64 (f : Int) (o : Int) != 0) = true := by simp [bne, bit64_no (o := o) hf ho32 ht]
        have hQ := HS.out
        rw [if_neg ht] at hQ
        subst hQ
        clear ht HS
        go_wp2_with fail
        refine (IK.out _).mono ?_
        rintro e w1 ⟨rfl, hb⟩
        have hrow := own_below HR.out hb
        have HB1 := Lib.hid (below_next hB.out hb)
        have hs1 := HB1.out.size
        clear hb c0 HR
        go_wp2_with (at_builtin; refine wpList_append_own _ rfl _ _ 127 rfl wA.heap.size 9 i0 _ 1 16 Tryz.underlying127 hi hz0 hz1 hz2 rfl (by decide) _ _ _ rfl (hrow.alloc _) ⟨w1.heap.size, 0, none⟩ 1 1 (encS nm) rfl rfl (by rw [HE.out]; exact cell_one_new _ _ _) (by intro u hu; rw [HE.out] at hu; simp at hu; subst hu; rfl) (by unfold maxLen; omega) (by omega) (by simp; omega) ?_; intro v' w8 hown' hgrow _)
        have HB8 := Lib.hid ((HB1.out.alloc hs1 (.cells #[.string nb] 9)).grown hgrow (by simp; omega) (fun k hk => (hrow.lt k hk).1))
        have HN := Lib.hid hown'
        clear hown' hgrow hrow
        go_wp2
        go_roundw
        case rel => exact ⟨k + 1, by omega, by go_num, by rw [HQ2.out]; simpa [flatL] using HN.out, HB8⟩
        case measure => simp [intOf]; omega
    · obtain rfl : k = 5 := by omega
      have HR := Lib.hid hrow
      obtain ⟨A', c', rfl⟩ := own_any hrow
      clear hrow
      go_wp2_with fail
      go_ret
      exact ⟨_, rfl, own_base HR.out HB0.out.size, below_next HB0.out hB.out⟩

def modeA : Value := .agg #[.string ⟨#[70, 76, 65, 71, 83]⟩, .string ⟨#[43, 70, 76, 65, 71, 83]⟩, .string ⟨#[45, 70, 76, 65, 71, 83]⟩]
theorem mode_ix (w : World) : (Instr.index 213 modeA (.int .i64 0)).run Tryz.prog w = .ok (.string ⟨#[70, 76, 65, 71, 83]⟩) w ∧ (Instr.index 213 modeA (.int .i64 1)).run Tryz.prog w = .ok (.string ⟨#[43, 70, 76, 65, 71, 83]⟩) w ∧ (Instr.index 213 modeA (.int .i64 2)).run Tryz.prog w = .ok (.string ⟨#[45, 70, 76, 65, 71, 83]⟩) w := by
  refine ⟨?_, ?_, ?_⟩ <;> kernel_rfl
set_option maxRecDepth 100000 in
set_option maxHeartbeats 1000000 in
theorem pmode_any (m : Nat) (hm : m ≤ 2) (si : Bool) (w : World) :
    Calls Tryz.prog 169 #[.int .i64 (m : Int), .bool si] w fun e w' => e = .returned (.string ⟨(modeT m si).toArray⟩) ∧ w = w' := by
  obtain ⟨i0, i1, i2⟩ := mode_ix w
  unfold modeA at *
  have hc : m = 0 ∨ m = 1 ∨ m = 2 := by omega
  rcases hc with rfl | rfl | rfl <;> cases si
  all_goals
    go_enter Tryz.func169, Tryz.ntmps169
    go_wp2_with fail
    go_simp
    go_wp2_with fail
    go_ret
    exact ⟨rfl, rfl⟩
end Go.Proofs.YtpgfnlhfciacoaaGreatDoor
