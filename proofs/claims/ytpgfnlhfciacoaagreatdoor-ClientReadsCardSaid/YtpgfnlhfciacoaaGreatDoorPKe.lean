import Derived.Test.YtpgfnlhfciacoaaGreatDoorPGp
import Derived.Test.YtpgfnlhfciacoaaGreatDoorPKa
import Derived.Test.YtpgfnlhfciacoaaGreatDoorPGq
import Derived.Deep.AppendSrc
set_option maxRecDepth 100000
set_option maxHeartbeats 2000000
open Go.Lib renaming hid → Hi
namespace Go.Proofs.YtpgfnlhfciacoaaGreatDoor
open Go.RowKit
section
open Go.Maps Go.Shelf
theorem spL_len : ∀ (ns : List (List UInt8)), (∀ p ∈ ns, p.length ≤ 9000) → (spL ns).length ≤ ns.length * 9001
 | [], _ => by simp [spL_nil]
 | [p], h => by rw [spL_one]; have := h p (by simp); simp; omega
 | p :: q :: ps, h => by
   have ih := spL_len (q :: ps) (fun x hx => h x (by simp [hx]))
   have := h p (by simp)
   rw [spL_cons]
   simp only [List.length_append, List.length_cons] at ih ⊢
   omega
theorem joinS_any (ns : List (List UInt8)) (v : Value) (base : Nat) (w : World) (hO : w.ownsRow base 9 1 v ns.length (YF encS ns)) (hn : ns.length ≤ 100000) (hs : (spL ns).length ≤ 1000000000) :
 Calls Tryz.prog 167 #[v, .string ⟨#[32]⟩] w fun e w' => e = .returned (.string ⟨(spL ns).toArray⟩) ∧ Below w.heap.size w w' := by
 by_cases hnil : ns = []
 · subst hnil
   obtain ⟨A', c', rfl⟩ := YV hO
   exact (Any.strings_Join_none Tryz.lays156 Tryz.Builder_Extra_156 A' c' ⟨#[32]⟩ w).mono fun e w' ⟨he, hw⟩ => ⟨he, hw ▸ Below.refl _ _⟩
 · have hpos : 0 < ns.length := List.length_pos_iff.2 hnil
   obtain ⟨xs, hxs⟩ : ∃ xs : List ByteArray, xs = ns.map fun x => ByteArray.mk x.toArray := ⟨_, rfl⟩
   have hxl : xs.length = ns.length := by rw [hxs, List.length_map]
   have hxm : xs.map (fun x => x.data.toList) = ns := by rw [hxs, List.map_map]; simp [Function.comp_def]
   obtain ⟨g, cap, rfl, hg, hcap⟩ : ∃ g cap, v = .slice (some ⟨g, 0, none⟩) ns.length cap ∧ g < w.heap.size ∧ ns.length ≤ cap := by
    rcases hO.2 with ⟨rfl, h⟩ | ⟨g, cap, cur, rfl, h1, h2, h3, h4, h5, h6⟩
    · omega
    · exact ⟨g, cap, rfl, (Array.getElem?_eq_some_iff.1 h2).1, by first | exact h3 | exact h5 | omega⟩
   have J := Any.strings_Join Tryz.lays156 Tryz.Builder_Extra_156 g 0 cap xs ⟨#[32]⟩ w (fun j x hx => by
    have h1 : (YF encS ns)[j]? = some (.string x) := by
     have h2 : ns[j]? = some x.data.toList := by rw [← hxm, List.getElem?_map, hx]; rfl
     have := flatL_at encS_len ns j _ h2 0 (.string x) (by simp [encS])
     simpa using this
    have := hO.cells (g := g) rfl j _ h1
    rw [Addr.add_lit] at this
    exact this) hg (by omega) (by omega) (by rw [hxm]; show (spL ns).length ≤ _; omega)
   rw [hxl, hxm] at J
   exact J
end
section
open Go.Maps
theorem cmbox_any (s : List UInt8) (hs : s.length ≤ 1000000) (w : World) (henv : Env w) :
 Calls Tryz.prog 163 #[.string ⟨s.toArray⟩] w fun e w' => e = .returned (.string ⟨(mboxT s).toArray⟩) ∧ Below w.heap.size w w' := by
 have hz : (ByteArray.mk s.toArray).size = s.length := bsz s
 have AL := Hi (all_any 180 atomN (fun n W h => atom_any n W h) (fun _ _ => by go_simp) ⟨s.toArray⟩ (by omega) w)
 have HE := Hi henv
 have HD := Hi (show (ByteArray.mk s.toArray).data.toList = s from rfl)
 rw [HD.out] at AL
 cases ha : allL atomN s with
 | true =>
   have HM := Hi (show mboxT s = s by unfold mboxT; rw [if_pos ha])
   rw [ha] at AL
   clear ha henv
   generalize ByteArray.mk s.toArray = sb at *
   go_enter Tryz.func163, Tryz.ntmps163
   go_wp2_with fail
   refine AL.out.mono ?_
   rintro e w1 ⟨rfl, hb⟩
   go_wp2_with fail
   go_ret
   exact ⟨ret_str (str_of (by rw [HM.out]; exact HD.out)), hb⟩
 | false =>
   have HM := Hi (show mboxT s = bestL s by unfold mboxT; rw [if_neg (by rw [ha]; decide)])
   rw [ha] at AL
   clear ha henv
   have CB := Hi (fun W => convB W ⟨s.toArray⟩ s.length hz)
   have BE := Hi (fun (W : World) (c : Nat) (hW : Env W) (h : ByAt W.heap.size W (some ⟨W.heap.size - 1, 0, none⟩) c s) => best_any W.heap.size (some ⟨W.heap.size - 1, 0, none⟩) c s (by omega) W hW h)
   obtain ⟨m, hm⟩ : ∃ m, s.length = m := ⟨_, rfl⟩
   rw [hm] at CB BE
   generalize hsb : ByteArray.mk s.toArray = sb at *
   clear hz hm hsb
   go_enter Tryz.func163, Tryz.ntmps163
   go_wp2_with fail
   refine AL.out.mono ?_
   rintro e w1 ⟨rfl, hb⟩
   have HB1 := Hi hb
   obtain ⟨cap, w2, hr, hb2, hby, hc, hz2, _⟩ := CB.out w1
   have HB2 := Hi (YA HB1.out hb2)
   have hy : ByAt w2.heap.size w2 (some ⟨w2.heap.size - 1, 0, none⟩) cap s := by
    rw [hz2, Nat.add_sub_cancel, ← hz2]
    rw [HD.out] at hby
    exact hby
   have BW := BE.out w2 cap (HE.out.below HB2.out) hy
   have HZ2 := Hi hz2
   rw [hz2, Nat.add_sub_cancel] at BW
   have BW := Hi BW
   clear hb hb2 hby hc hz2 hy BE CB AL
   go_wp2_with fail
   refine BW.out.mono ?_
   rintro e w3 ⟨A', c', rfl, hy3, hb3⟩
   have HB3 := Hi (YA HB2.out (HZ2.out ▸ hb3))
   have cv := convS _ w3 A' c' _ (bestL s) hy3 rfl
   generalize (bestL s).length = q at *
   clear hb3 hy3
   go_wp2_with fail
   go_ret
   exact ⟨ret_str (str_of (by rw [HM.out])), HB3.out⟩
def itemsA : Array Value := #[.string ⟨#[70, 76, 65, 71, 83]⟩, .string ⟨#[85, 73, 68]⟩, .string ⟨#[82, 70, 67, 56, 50, 50, 46, 83, 73, 90, 69]⟩, .string ⟨#[66, 79, 68, 89, 46, 80, 69, 69, 75, 91, 93]⟩, .string ⟨#[66, 79, 68, 89, 91, 93]⟩]
theorem itemsA_at (k : Nat) (hk : k < 5) (w : World) : (w.alloc (.cells itemsA 9)).cell? ⟨w.heap.size, k, none⟩ = some (.string ⟨(ZB (2 ^ k)).toArray⟩) := by
 rw [cell_of_row _ w.heap.size k _ _ _ (YD w _)]
 have h : k = 0 ∨ k = 1 ∨ k = 2 ∨ k = 3 ∨ k = 4 := by omega
 rcases h with rfl | rfl | rfl | rfl | rfl <;> rfl
theorem itemL_at {k : Nat} (hk : k < 5) : itemL (ZB (2 ^ k)) = 2 ^ k := by
 have h : k = 0 ∨ k = 1 ∨ k = 2 ∨ k = 3 ∨ k = 4 := by omega
 rcases h with rfl | rfl | rfl | rfl | rfl <;> decide
theorem own_base {w : World} {b base : Nat} {e : TypeId} {size n : Nat} {v : Value} {xs : List Value} (h : w.ownsRow base e size v n xs) (hb : b ≤ base) : w.ownsRow b e size v n xs := by
 refine ⟨h.1, ?_⟩
 rcases h.2 with h0 | ⟨g, cap, cur, rfl, h1, rest⟩
 · exact .inl h0
 · exact .inr ⟨g, cap, cur, rfl, Nat.le_trans hb h1, rest⟩
theorem bitsK_le (f k : Nat) : (bitsK f k).length ≤ k := by
 unfold bitsK
 have h := List.length_filter_le (fun o => f &&& o != 0) (ones.take k)
 rw [List.length_take] at h
 omega
theorem pnames_any (f : Nat) (hf : f < 256) (w : World) :
 Calls Tryz.prog 168 #[.int .i64 (f : Int)] w fun e w' => ∃ v, e = .returned v ∧ w'.ownsRow w.heap.size 9 1 v ((eachL f).map ZB).length (YF encS ((eachL f).map ZB)) ∧ Below w.heap.size w w' := by
 obtain ⟨i0, hi, hz0, hz1, hz2⟩ := info_parts infoS
 have IT := Hi (fun s (hs : s.size ≤ 1000000000) W => item_any s hs W)
 have HC := Hi (fun k (hk : k < 5) => itemsA_at k hk w)
 have HB0 := Hi (YB w (.cells itemsA 9))
 have HZ0 : Hid ((w.alloc (.cells itemsA 9)).heap.size = w.heap.size + 1) := Hi (World.size_alloc w _)
 unfold itemsA at HC HB0 HZ0
 go_enter Tryz.func168, Tryz.ntmps168
 go_wp2_with fail
 generalize hwa : w.alloc (.cells #[.string ⟨#[70, 76, 65, 71, 83]⟩, .string ⟨#[85, 73, 68]⟩, .string ⟨#[82, 70, 67, 56, 50, 50, 46, 83, 73, 90, 69]⟩, .string ⟨#[66, 79, 68, 89, 46, 80, 69, 69, 75, 91, 93]⟩, .string ⟨#[66, 79, 68, 89, 91, 93]⟩] 9) = wA at *
 clear hwa
 go_loopw [3, 10] (fun v i wr => ∃ k : Nat, k ≤ 5 ∧ i = .int .i64 (k : Int) ∧ wr.ownsRow wA.heap.size 9 1 v ((bitsK f k).map ZB).length (YF encS ((bitsK f k).map ZB)) ∧ Hid (Below wA.heap.size wA wr))
  (fun _ i _ => 5 - (intOf i).toNat)
 case atStart => exact ⟨0, by omega, rfl, World.ownsRow_nil _ _ _ _, Hi (Below.refl _ _)⟩
 case round =>
  obtain ⟨k, hk, rfl, hrow, hB⟩ := hrel
  by_cases hlt : k < 5
  · obtain ⟨hon, _, _⟩ := (show bitAtK k (2 ^ k) from ⟨hk, rfl⟩).ones (by
     have h : k = 0 ∨ k = 1 ∨ k = 2 ∨ k = 3 ∨ k = 4 := by omega
     rcases h with rfl | rfl | rfl | rfl | rfl <;> decide)
    have c0 := (hB.out.cell (p := ⟨w.heap.size, k, none⟩) (by show w.heap.size < _; rw [HZ0.out]; omega)).trans (HC.out k hlt)
    have hk0 : (0 : Int) ≤ (k : Int) := by omega
    have hk1 : (k : Int) < 5 := by omega
    have HS : Hid ((bitsK f (k + 1)).map ZB = (bitsK f k).map ZB ++ (if f &&& 2 ^ k = 0 then [] else [ZB (2 ^ k)])) := Hi (by
     rw [bitsK_succ hon, List.map_append]
     split <;> rfl)
    have hle := bitsK_le f k
    have hlm : ((bitsK f k).map ZB).length ≤ 5 := by rw [List.length_map]; omega
    have hD : (ByteArray.mk (ZB (2 ^ k)).toArray).data.toList = ZB (2 ^ k) := rfl
    have hzi : (ByteArray.mk (ZB (2 ^ k)).toArray).size ≤ 11 := by rw [bsz]; exact itemB_len _
    have IK := IT.out ⟨(ZB (2 ^ k)).toArray⟩ (by omega)
    rw [hD, itemL_at hlt] at IK
    have IK := Hi IK
    have ho32 : 2 ^ k < 256 := by
     have h : k = 0 ∨ k = 1 ∨ k = 2 ∨ k = 3 ∨ k = 4 := by omega
     rcases h with rfl | rfl | rfl | rfl | rfl <;> decide
    have HE : Hid (encS (ZB (2 ^ k)) = [.string ⟨(ZB (2 ^ k)).toArray⟩]) := Hi rfl
    generalize hnb : ByteArray.mk (ZB (2 ^ k)).toArray = nb at *
    clear hnb hD hzi hon hle
    generalize (bitsK f k).map ZB = Q at *
    generalize hQ2 : (bitsK f (k + 1)).map ZB = Q2 at *
    have HQ2 := Hi hQ2
    clear hQ2
    generalize ZB (2 ^ k) = nm at *
    generalize 2 ^ k = o at *
    obtain ⟨A', c', rfl⟩ := YV hrow
    have HR := Hi hrow
    have hsz := hB.out.size
    clear hrow
    by_cases ht : f &&& o = 0
    · have hb1 : (bits BinOp.and IntKind.i64 (f : Int) (o : Int) != 0) = false := by simp [bne, bit64_yes (o := o) hf ho32 ht]
      have hQ := HS.out
      rw [if_pos ht, List.append_nil] at hQ
      subst hQ
      clear ht HS
      go_wp2_with fail
      refine (IK.out _).mono ?_
      rintro e w1 ⟨rfl, hb⟩
      have HR1 := Hi (ZP HR.out hb)
      have HB1 := Hi (YA hB.out hb)
      clear hb c0
      go_wp2_with fail
      go_roundw
      case rel => exact ⟨k + 1, by omega, by go_num, by rw [HQ2.out]; exact HR1.out, HB1⟩
      case measure => simp [intOf]; omega
    · have hb1 : (bits BinOp.and IntKind.i64 (f : Int) (o : Int) != 0) = true := by simp [bne, bit64_no (o := o) hf ho32 ht]
      have hQ := HS.out
      rw [if_neg ht] at hQ
      subst hQ
      clear ht HS
      go_wp2_with fail
      refine (IK.out _).mono ?_
      rintro e w1 ⟨rfl, hb⟩
      have hrow := ZP HR.out hb
      have HB1 := Hi (YA hB.out hb)
      have hs1 := HB1.out.size
      clear hb c0 HR
      go_wp2_with (at_builtin; refine wpList_append_own _ rfl _ _ 127 rfl wA.heap.size 9 i0 _ 1 16 Tryz.underlying127 hi hz0 hz1 hz2 rfl (by decide) _ _ _ rfl (hrow.alloc _) ⟨w1.heap.size, 0, none⟩ 1 1 (encS nm) rfl rfl (by rw [HE.out]; exact cell_one_new _ _ _) (by intro u hu; rw [HE.out] at hu; simp at hu; subst hu; rfl) (by unfold maxLen; omega) (by omega) (by simp; omega) ?_; intro v' w8 hown' hgrow _)
      have HB8 := Hi ((HB1.out.alloc hs1 (.cells #[.string nb] 9)).grown hgrow (by simp; omega) (fun k hk => (hrow.lt k hk).1))
      have HN := Hi hown'
      clear hown' hgrow hrow
      go_wp2
      go_roundw
      case rel => exact ⟨k + 1, by omega, by go_num, by rw [HQ2.out]; simpa [YF] using HN.out, HB8⟩
      case measure => simp [intOf]; omega
  · obtain rfl : k = 5 := by omega
    have HR := Hi hrow
    obtain ⟨A', c', rfl⟩ := YV hrow
    clear hrow
    go_wp2_with fail
    go_ret
    exact ⟨_, rfl, own_base HR.out HB0.out.size, YA HB0.out hB.out⟩
def modeA : Value := .agg #[.string ⟨#[70, 76, 65, 71, 83]⟩, .string ⟨#[43, 70, 76, 65, 71, 83]⟩, .string ⟨#[45, 70, 76, 65, 71, 83]⟩]
theorem mode_ix (w : World) : (Instr.index 213 modeA (.int .i64 0)).run Tryz.prog w = .ok (.string ⟨#[70, 76, 65, 71, 83]⟩) w ∧ (Instr.index 213 modeA (.int .i64 1)).run Tryz.prog w = .ok (.string ⟨#[43, 70, 76, 65, 71, 83]⟩) w ∧ (Instr.index 213 modeA (.int .i64 2)).run Tryz.prog w = .ok (.string ⟨#[45, 70, 76, 65, 71, 83]⟩) w := by
 refine ⟨?_, ?_, ?_⟩ <;> kernel_rfl
theorem pmode_any (m : Nat) (hm : m ≤ 2) (si : Bool) (w : World) :
 Calls Tryz.prog 169 #[.int .i64 (m : Int), .bool si] w fun e w' => e = .returned (.string ⟨(modeT m si).toArray⟩) ∧ w = w' := by
 obtain ⟨i0, i1, i2⟩ := mode_ix w
 unfold modeA at *
 have hc : m = 0 ∨ m = 1 ∨ m = 2 := by omega
 rcases hc with rfl | rfl | rfl <;> cases si
 all_goals
  go_enter Tryz.func169, Tryz.ntmps169
  go_wp2_with fail
  go_simp
  go_wp2_with fail
  go_ret
  exact ⟨rfl, rfl⟩
end
structure TbR (g : Nat) (w : World) (c : Nat) (l : List UInt8) : Prop where
 le : l.length ≤ c
 row : ∃ cs fr, w.heap[g]? = some (.cells cs 5 fr) ∧ cs.size = c ∧ (fr = (0, 0) ∨ fr = (cs.size, cs.size + 1)) ∧ ∀ j (h : j < l.length), w.cell? ⟨g, j, none⟩ = some (.int .u8 (l[j].toNat : Int))
section
variable {g c : Nat} {w w' : World} {l : List UInt8}
theorem TbR.lt (h : TbR g w c l) : g < w.heap.size := by
 obtain ⟨cs, fr, hh, _⟩ := h.row
 exact (Array.getElem?_eq_some_iff.1 hh).1
theorem TbR.kept (h : TbR g w c l) (hk : w'.heap[g]? = w.heap[g]?) : TbR g w' c l := by
 obtain ⟨h1, cs, fr, hh, hs, hf, hc⟩ := h
 exact ⟨h1, cs, fr, hk.trans hh, hs, hf, fun j hj => (World.cell?_of_block (a := ⟨g, j, none⟩) hk).trans (hc j hj)⟩
theorem TbR.below (h : TbR g w c l) (hb : Below w.heap.size w w') : TbR g w' c l := h.kept (hb.block g h.lt)
theorem TbR.by (h : TbR g w c l) : ByAt w.heap.size w (some ⟨g, 0, none⟩) c l := by
 have hlt := h.lt
 obtain ⟨cs, fr, _, _, _, hc⟩ := h.row
 exact ⟨h.le, .inr ⟨g, 0, rfl, hlt, hlt, fun j hj => by rw [Nat.zero_add]; exact hc j hj⟩⟩
theorem TbR.of_str (s : ByteArray) (cap : Nat) (h : s.size ≤ cap) (hr : w.heap[g]? = some (.cells (bytesRow s cap) 5 ((bytesRow s cap).size, (bytesRow s cap).size + 1))) : TbR g w cap s.data.toList := by
 have hl : s.data.toList.length = s.size := by rw [Array.length_toList]; rfl
 refine ⟨by omega, _, _, hr, bytesRow_size s cap h, .inr rfl, fun j hj => ?_⟩
 rw [Array.length_toList] at hj
 rw [cell_of_row w g j _ _ _ hr, bytesRow_at s cap j hj]
 simp
theorem tb_open {cs : Array Value} {t : TypeId} {fr : Nat × Nat} (hh : w.heap[g]? = some (.cells cs t fr)) (hf : fr = (0, 0) ∨ fr = (cs.size, cs.size + 1)) {j : Nat} (hj : j < cs.size) : w.frozen? ⟨g, j, none⟩ = false := by
 rcases hf with rfl | rfl
 · exact Joins.unfrozen_of_block hh _
 · simp only [World.frozen?, hh]
   simp
   omega
end
def byV (l : List UInt8) : List Value := l.map fun x => Value.int .u8 (x.toNat : Int)
theorem append_tb (w : World) (tx ty : TypeId) (g c n : Nat) (l : List UInt8) (h : TbR g w c l) (hn : l.length = n) (x : Value) (m : Nat) (p : List UInt8) (hs : Src Tryz.prog 1 tx x m (byV p) w) (h63 : n + m ≤ 1000000000) :
 ∃ g' c' w', (Builtin.append_ #[24, tx] ty #[.slice (some ⟨g, 0, none⟩) n c, x]).run Tryz.prog w = .ok (.slice (some ⟨g', 0, none⟩) (n + m) c') w' ∧ TbR g' w' c' (l ++ p) ∧ (g' = g ∨ w.heap.size ≤ g') ∧ w.grownBy w' (some g) := by
 subst hn
 obtain ⟨i0, hi, hz0, hz1, hz2⟩ := info_parts infoByte
 have hm : p.length = m := by have := hs.newsLen; simpa [byV] using this
 have hle := h.le
 obtain ⟨cs, fr, hh, hsz, hf, hc⟩ := h.row
 by_cases hroom : l.length + m ≤ c
 · have hin : ∀ j, j < (byV p).length → l.length + j < cs.size := fun j hj => by simp [byV] at hj; omega
   have hcell : ∀ j, j < (byV p).length → (w.cell? ⟨g, 0 + l.length * i0.size + j, none⟩).isSome = true := fun j hj => by
    have := hin j hj
    rw [hz1, Nat.mul_one, Nat.zero_add, cell_of_row w g _ _ _ _ hh, Array.getElem?_eq_getElem (by omega)]
    rfl
   have hr := run_append_room_src (P := Tryz.prog) w 24 tx ty 5 i0 Tryz.underlying24 hi g 0 l.length c x m (byV p) (hz1.symm ▸ hs) hroom hcell
    (fun j hj => by
     have := hin j hj
     rw [hz1, Nat.mul_one, Nat.zero_add]
     exact tb_open hh hf (by omega))
   obtain ⟨cs', q1, q2⟩ := block_setCells (byV p) (0 + l.length * i0.size) w cs hh
   refine ⟨g, c, _, hr, ⟨by rw [List.length_append]; omega, cs', fr, q1, by omega, by rw [q2]; exact hf, fun j hj => ?_⟩, .inl rfl, grown_setCells g _ _ w w (World.grownBy.refl _ _)⟩
   rw [List.length_append] at hj
   by_cases hlt : j < l.length
   · rw [World.cell?_setCells_out g _ _ w _ (fun _ _ => Or.inl (by rw [hz1]; show j < 0 + l.length * 1; omega)), List.getElem_append_left hlt]
     exact hc j hlt
   · have e : j = 0 + l.length * i0.size + (j - l.length) := by rw [hz1]; omega
     have hj2 : j - l.length < (byV p).length := by simp only [byV, List.length_map]; omega
     have hin2 := World.cell?_setCells_in g (byV p) (0 + l.length * i0.size) w hcell (j - l.length) hj2
     rw [← e] at hin2
     rw [hin2, List.getElem_append_right (by omega)]
     simp [byV]
 · have holds : ∀ j u, (byV l)[j]? = some u → w.drew.cell? ((⟨g, 0, none⟩ : Addr).add j) = some u := fun j u hj => by
    rw [byV, List.getElem?_map] at hj
    obtain ⟨y, hy, rfl⟩ := Option.map_eq_some_iff.1 hj
    obtain ⟨hlt, rfl⟩ := List.getElem?_eq_some_iff.1 hy
    rw [Addr.add_lit, Nat.zero_add]
    exact hc j hlt
   have hold := run_firstCells_some (P := Tryz.prog) w.drew i0.size l.length ⟨g, 0, none⟩ l.length c (byV l) (by rw [hz1]; simp [byV]) holds
   have hr := run_append_grow_src (P := Tryz.prog) w 24 tx ty 5 i0 (.int .u8 0) Tryz.underlying24 hi hz0 (some ⟨g, 0, none⟩) l.length c (byV l) hold x m (byV p) (hz1.symm ▸ hs) (by omega) (by omega)
    (growslice_fits (by omega) (by rw [hz2]; omega))
   have hge := grownCap_ge w (l.length + m) c 5
   generalize ho : Obj.cells ((byV l ++ byV p).toArray ++ Builtin.zeroCells (Value.int IntKind.u8 0).cells (grownCap w (l.length + m) c 5 - (l.length + m))) 5 = X at hr
   have hnew : (w.drew.alloc X).heap[w.heap.size]? = some X := YD w.drew X
   have hgr : w.grownBy (w.drew.alloc X) (some g) := ⟨rfl, rfl, rfl, by simp, fun k hk _ => heap_alloc_old w.drew X hk⟩
   subst ho
   refine ⟨_, _, _, hr, ⟨by rw [List.length_append]; omega, _, _, hnew, ?_, .inl rfl, fun j hj => ?_⟩, .inr (Nat.le_refl w.heap.size), hgr⟩
   · simp only [Array.size_append, List.size_toArray, size_zeroCells, List.length_append]
     show (byV l).length + (byV p).length + _ * 1 = _
     simp only [byV, List.length_map]
     omega
   · rw [cell_of_row _ _ j _ _ _ hnew]
     have h1 : j < (byV l ++ byV p).length := by simpa [byV] using hj
     rw [Array.getElem?_append_left (by simpa using h1)]
     simp only [List.getElem?_toArray]
     rw [List.getElem?_eq_getElem h1]
     simp [byV, ← List.map_append]
theorem src_one (w : World) (b : Nat) (x : UInt8) (n : Nat) (hc : w.cell? ⟨b, 0, none⟩ = some (.int .u8 (x.toNat : Int))) : Src Tryz.prog 1 24 (.slice (some ⟨b, 0, none⟩) 1 n) 1 (byV [x]) w :=
 Src.ofSlice w Tryz.underlying24 ⟨b, 0, none⟩ 1 n (byV [x]) rfl (fun j u hj => by
  cases j with
  | zero => simp [byV] at hj; rw [← hj]; simpa [Addr.add_lit] using hc
  | succ j => simp [byV] at hj) (fun u hu => by simp [byV] at hu; rw [hu]; rfl)
theorem src_str (w : World) (s : ByteArray) : Src Tryz.prog 1 9 (.string s) s.size (byV s.data.toList) w := Src.ofString w Tryz.underlying9 s
theorem wpList_append_tb {w : World} {ops : Array Oper} {rest : List Oper} {o : Oper} {a : Act} {Q : Exit → Act → World → Prop} (hgd : o.guard = none) (s x : Operand) (tx : TypeId)
 (ho : o.op = .call { callee := .builtin .append, args := #[s, x], argTypes := #[24, tx] })
 (g c n : Nat) (l : List UInt8) (hT : TbR g w c l) (hn : l.length = n) (hs : a.eval s = .slice (some ⟨g, 0, none⟩) n c) (v : Value) (m : Nat) (p : List UInt8) (hx : a.eval x = v) (hS : Src Tryz.prog 1 tx v m (byV p) w) (h63 : n + m ≤ 1000000000) (k : Nat) (hk : n + m = k)
 (h : ∀ g' c' w', Hid (TbR g' w' c' (l ++ p)) → Hid (g' = g ∨ w.heap.size ≤ g') → Hid (w.grownBy w' (some g)) → wpList Tryz.prog ops Q rest (a.put o.dst (.slice (some ⟨g', 0, none⟩) k c')) w') : wpList Tryz.prog ops Q (o :: rest) a w := by
 subst hk
 obtain ⟨g', c', w', hrun, h2, h3, h4⟩ := append_tb w tx o.type g c n l hT hn v m p hS h63
 refine wpList_plain hgd fun K hK => ?_
 unfold Oper.wp execOp
 simp only [ho, resolve, invoke, builtin, Sem.run_bind, Sem.run_pure, Result.andThen_ok, List.map_toArray, List.map_cons, List.map_nil, hs, hx, hrun]
 exact hK _ _ (h g' c' w' h2 h3 h4)
section
open Go.Maps
structure PutB (B bb g : Nat) (l : List UInt8) (w : World) : Prop where
 hb : B ≤ bb
 hg : B ≤ g
 ne : bb ≠ g
 hw : B ≤ w.heap.size
 ex : ∃ c, w.heap[bb]? = some (.cells #[.slice (some ⟨g, 0, none⟩) l.length c] 24 (0, 0)) ∧ TbR g w c l
theorem PutB.blt {B bb g : Nat} {l : List UInt8} {w : World} (h : PutB B bb g l w) : bb < w.heap.size := by
 obtain ⟨c, hx, _⟩ := h.ex
 exact (Array.getElem?_eq_some_iff.1 hx).1
theorem PutB.glt {B bb g : Nat} {l : List UInt8} {w : World} (h : PutB B bb g l w) : g < w.heap.size := by
 obtain ⟨c, _, hT⟩ := h.ex
 exact hT.lt
theorem PutB.below {B bb g : Nat} {l : List UInt8} {w w' : World} (h : PutB B bb g l w) (hb : Below w.heap.size w w') : PutB B bb g l w' := by
 have h0 := h.blt
 obtain ⟨h1, h2, h3, h4, c, hx, hT⟩ := h
 exact ⟨h1, h2, h3, Nat.le_trans h4 hb.size, c, (hb.block bb h0).trans hx, hT.below hb⟩
def Oth (bb g : Nat) (w w' : World) : Prop := ∀ k, k < w.heap.size → k ≠ bb → k ≠ g → w'.heap[k]? = w.heap[k]?
theorem put_set {B bb g g' c' n : Nat} {l l' : List UInt8} {w W w' : World} (h : PutB B bb g l w) (hW : Below w.heap.size w W) (hg : W.grownBy w' (some g)) (hT : TbR g' w' c' l') (hor : g' = g ∨ W.heap.size ≤ g') (hn : l'.length = n) :
 PutB B bb g' l' (w'.setCell ⟨bb, 0, none⟩ (.slice (some ⟨g', 0, none⟩) n c')) ∧ Below B w (w'.setCell ⟨bb, 0, none⟩ (.slice (some ⟨g', 0, none⟩) n c')) ∧ Oth bb g w (w'.setCell ⟨bb, 0, none⟩ (.slice (some ⟨g', 0, none⟩) n c')) := by
 subst hn
 have hlt := h.blt
 obtain ⟨h1, h2, h3, h4, c, hx, _⟩ := h
 have hWs := hW.size
 have hsz := hg.size
 have hne' : bb ≠ g' := by
  rcases hor with rfl | hor
  · exact h3
  · omega
 have hbox : w'.heap[bb]? = some (.cells #[.slice (some ⟨g, 0, none⟩) l.length c] 24 (0, 0)) := (hg.block bb (by omega) (fun e => h3 (Option.some.inj e))).trans ((hW.block bb hlt).trans hx)
 have other : ∀ k, k ≠ bb → (w'.setCell ⟨bb, 0, none⟩ (.slice (some ⟨g', 0, none⟩) l'.length c')).heap[k]? = w'.heap[k]? := fun k hk => Below.heap_setCell _ _ _ k hk
 have hBw : Below B w w' := (hW.mono h4).grown hg (by omega) (fun k hk => by injection hk with hk; omega)
 refine ⟨⟨h1, ?_, hne', ?_, c', ?_, hT.kept (other g' (Ne.symm hne'))⟩, hBw.setCell (p := ⟨bb, 0, none⟩) h1 _, fun k hk k1 k2 => ?_⟩
 · rcases hor with rfl | hor
   · exact h2
   · omega
 · simp; omega
 · rw [Joins.block_setCell hbox]; simp
 · rw [other k k1, hg.block k (by omega) (fun e => k2 (Option.some.inj e))]
   exact hW.block k hk
theorem cput_any (B bb g : Nat) (l p : List UInt8) (hl : l.length ≤ 10000000) (hp : p.length ≤ 10000000) (w : World) (h : PutB B bb g l w) :
 Calls Tryz.prog 80 #[.string ⟨p.toArray⟩, .pointer (some ⟨bb, 0, none⟩)] w fun e w' =>
  e = .returned (.tuple #[]) ∧ (∃ g', PutB B bb g' (l ++ 32 :: p) w' ∧ (g' = g ∨ w.heap.size ≤ g') ∧ Oth bb g w w') ∧ Below B w w' := by
 obtain ⟨c, hbox, hT⟩ := h.ex
 have c1 : w.cell? ⟨bb, 0, none⟩ = some (.slice (some ⟨g, 0, none⟩) l.length c) := cell_of_row w bb 0 _ _ _ hbox
 obtain ⟨n, hn⟩ : ∃ n, l.length = n := ⟨_, rfl⟩
 have HAL := Hi (YB w (.cells #[.int .u8 32] 5))
 have HT1 := Hi (hT.below HAL.out)
 have S1 := Hi (src_one (w.alloc (.cells #[.int .u8 32] 5)) w.heap.size 32 1 (cell_of_row _ _ 0 _ _ _ (YD w _)))
 have HB := Hi h
 have HN := Hi hn
 have hbg := h.ne
 have hblt := h.blt
 have HBOX := Hi (show (w.alloc (.cells #[.int .u8 32] 5)).heap[bb]? = some (.cells #[.slice (some ⟨g, 0, none⟩) l.length c] 24 (0, 0)) from (HAL.out.block bb hblt).trans hbox)
 have HL := Hi (show bb < (w.alloc (.cells #[.int .u8 32] 5)).heap.size by rw [World.size_alloc]; omega)
 rw [hn] at c1 hl HBOX
 have HH : Hid (n + 1 ≤ 1000000000) := Hi (by omega)
 clear h hT hbox hn hblt
 go_enter Tryz.func80, Tryz.ntmps80
 go_upto_region 1 with (at_builtin; refine wpList_append_tb rfl _ _ 24 rfl g c n l HT1.out HN.out rfl _ 1 [32] rfl S1.out HH.out (n + 1) rfl ?_; intro g1 c1' w1 hT1 hor1 hg1; have K1 := Hi ((hg1.out.block bb HL.out (fun e => hbg (Option.some.inj e))).trans HBOX.out); have d1 := cell_of_row w1 bb 0 _ _ _ K1.out; have f1 := Joins.unfrozen_of_block K1.out 0)
 have hn1 : (l ++ [32]).length = n + 1 := by rw [List.length_append, HN.out]; rfl
 obtain ⟨P1, B1, O1⟩ := put_set HB.out HAL.out hg1.out hT1.out hor1.out hn1
 have hor1' : g1 = g ∨ w.heap.size ≤ g1 := by
  rcases hor1.out with e | e
  · exact .inl e
  · exact .inr (by rw [World.size_alloc] at e; omega)
 have HO1 := Hi O1
 have HB1 := Hi B1
 have HP1 := Hi P1
 have HG1 := Hi hor1'
 have HS1 := Hi B1.size
 clear O1 B1 P1 hor1' hor1 hT1 hg1 HT1 S1 HB HBOX HL K1 d1 f1 c1 HAL HH HN
 generalize w1.setCell ⟨bb, 0, none⟩ (.slice (some ⟨g1, 0, none⟩) (n + 1) c1') = w2 at *
 clear w1 hbg
 obtain ⟨c2, hbox2, hT2⟩ := HP1.out.ex
 have e2 : w2.cell? ⟨bb, 0, none⟩ = some (.slice (some ⟨g1, 0, none⟩) (l ++ [32]).length c2) := cell_of_row w2 bb 0 _ _ _ hbox2
 rw [hn1] at e2 hbox2
 have HN1 := Hi hn1
 have HT2 := Hi hT2
 have S2 := Hi (src_str w2 ⟨p.toArray⟩)
 have hz : (ByteArray.mk p.toArray).size = p.length := by show p.toArray.size = _; simp
 rw [hz, show (ByteArray.mk p.toArray).data.toList = p from rfl] at S2
 have hbg := HP1.out.ne
 have HL := Hi HP1.out.blt
 have HBOX := Hi hbox2
 have HPL := Hi (show (l ++ [32] ++ p).length = n + 1 + p.length by rw [List.length_append, HN1.out])
 obtain ⟨m, hm⟩ : ∃ m, p.length = m := ⟨_, rfl⟩
 rw [hm] at S2 HPL hp
 have HH : Hid (n + 1 + m ≤ 1000000000) := Hi (by omega)
 have HE := Hi (show l ++ 32 :: p = l ++ [32] ++ p by simp)
 clear hbox2 hT2 hn1 hz hm
 generalize ByteArray.mk p.toArray = pb at *
 go_wp2_with (at_builtin; refine wpList_append_tb rfl _ _ 9 rfl g1 c2 (n + 1) (l ++ [32]) HT2.out HN1.out rfl _ m p rfl S2.out HH.out (n + 1 + m) rfl ?_; intro g3 c3 w3 hT3 hor3 hg3; have K3 := Hi ((hg3.out.block bb HL.out (fun e => hbg (Option.some.inj e))).trans HBOX.out); have d3 := cell_of_row w3 bb 0 _ _ _ K3.out; have f3 := Joins.unfrozen_of_block K3.out 0)
 obtain ⟨P3, B3, O3⟩ := put_set HP1.out (Below.refl _ _) hg3.out hT3.out hor3.out HPL.out
 go_end0
 rw [HE.out]
 refine ⟨rfl, ⟨g3, P3, ?_, fun k hk k1 k2 => ?_⟩, HB1.out.trans B3⟩
 · have h1 := HG1.out
   have h2 := HS1.out
   rcases hor3.out with rfl | e
   · exact h1
   · exact .inr (by omega)
 · have h1 := HG1.out
   refine (O3 k (by have := HS1.out; omega) k1 ?_).trans (HO1.out k hk k1 k2)
   rcases h1 with rfl | h1
   · exact k2
   · omega
def wrElem : Value → Option (DataW Unit × List MemPlace)
 | .agg a => match a.toList with
   | [.func (.func n) x y] => if x.size = 0 ∧ y.size = 0 then some (.lit (.int .i64 n), []) else none
   | [.nilFunc] => some (.nil, [])
   | _ => none
 | _ => none
theorem wrElem_fn {v : Value} {n : Nat} {ps : List MemPlace} (h : wrElem v = some (.lit (.int .i64 n), ps)) : v = .agg #[.func (.func n) #[] #[]] := by
 unfold wrElem at h
 split at h
 · rename_i a
   split at h
   · rename_i m x y he
     split at h
     · rename_i hs
       simp at h
       obtain ⟨h, _⟩ := h
       have hx : x = #[] := by apply Array.eq_empty_of_size_eq_zero hs.1
       have hy : y = #[] := by apply Array.eq_empty_of_size_eq_zero hs.2
       subst hx hy
       have ha : a = #[.func (.func m) #[] #[]] := Array.toList_inj.1 he
       subst ha
       first
        | (subst h; rfl)
        | (have hm : m = n := Int.ofNat.inj h; subst hm; rfl)
     · cases h
   · simp at h
   · cases h
 · cases h
def wrV (n : Nat) : Value := .agg #[.func (.func n) #[] #[]]
theorem wrElem_of (n : Nat) : wrElem (.agg #[.func (.func n) #[] #[]]) = some (.lit (.int .i64 (n : Int)), []) := rfl
def wrF (k : Nat) : FuncId := if k ≤ 4 then 122 else if k = 5 then 123 else if k = 6 then 124 else if k = 7 then 125 else 126
def wrN (n : Nat) : DataW Unit := .lit (.int .i64 (n : Int))
def wrD : DataW Unit :=
 ((((((((DataW.map []).put (.int .i64 1) (wrN 122)).put (.int .i64 2) (wrN 122)).put (.int .i64 3) (wrN 122)).put (.int .i64 4) (wrN 122)).put (.int .i64 5) (wrN 123)).put (.int .i64 6) (wrN 124)).put (.int .i64 7) (wrN 125)).put (.int .i64 8) (wrN 126)
theorem keyI8 : Keyed Tryz.prog 3 := int_keyed Tryz.underlying3
theorem kI8 (x : Int) (h1 : -9223372036854775808 ≤ x) (h2 : x ≤ 9223372036854775807) : keyOf Tryz.prog 3 (.int .i64 x) = some (.int .i64 x) :=
 keyOf_int_mk Tryz.underlying3 (by simp [Lit.wf, IntKind.min, IntKind.max, IntKind.signed, IntKind.bits]; omega)
theorem zeroWr (w : World) : (zeroValue 124).run Tryz.prog w = .ok (.agg #[.nilFunc]) w := by kernel_rfl
theorem look_wr {w : World} {m : Nat} (hown : w.ownsMap Tryz.prog 3 wrElem m 8 wrD) (k : Nat) (h1 : 1 ≤ k) (h8 : k ≤ 8) :
 (Instr.lookup 125 (.map (some m)) (.int .i64 (k : Int)) false).run Tryz.prog w = .ok (wrV (wrF k)) w := by
 obtain ⟨v, ps, hrun, hv⟩ := hown.lookup keyI8 Tryz.underlying125 (zeroWr w) (zd := .nil) (zp := []) rfl (kI8 k (by omega) (by omega))
 have hD : wrD.atKey (.int .i64 (k : Int)) .nil = wrN (wrF k) := by
  have hc : k = 1 ∨ k = 2 ∨ k = 3 ∨ k = 4 ∨ k = 5 ∨ k = 6 ∨ k = 7 ∨ k = 8 := by omega
  clear hv
  rcases hc with rfl | rfl | rfl | rfl | rfl | rfl | rfl | rfl
  all_goals (show DataW.atKey _ _ _ = _; kernel_rfl)
 rw [hD] at hv
 obtain rfl := wrElem_fn hv
 exact hrun
theorem writers_any (w : World) :
 Calls Tryz.prog 82 #[] w fun e w' => e = .returned (.map (some (w.heap.size + 1))) ∧ w'.ownsMap Tryz.prog 3 wrElem (w.heap.size + 1) 8 wrD ∧ Below w.heap.size w w' := by
 have hmm := @run_makeMap Tryz.prog
 obtain ⟨wA, hwA⟩ : ∃ wA, w.alloc (.cells #[.func (.func 122) #[] #[]] 124) = wA := ⟨_, rfl⟩
 have hsA : wA.heap.size = w.heap.size + 1 := by rw [← hwA, World.size_alloc]
 have hown := World.ownsMap_made (H := Unit) wA Tryz.prog 3 wrElem
 have hbA : Below w.heap.size w wA := hwA ▸ YB w _
 have hcA : wA.cell? ⟨w.heap.size, 0, none⟩ = some (.func (.func 122) #[] #[]) := by rw [← hwA]; exact cell_of_row _ _ 0 _ _ _ (YD w _)
 have hb : Below (w.heap.size + 1) wA (wA.alloc (.map #[] 0)) := (Below.refl _ _).alloc (by omega) _
 rw [hsA] at hown
 have HO := Hi hown
 have HBA := Hi hbA
 have HC := Hi hcA
 have HZ : Hid (w.heap.size < w.heap.size + 1) := Hi (Nat.lt_succ_self _)
 have HW := Hi hwA
 have c0 := (hb.cell (p := ⟨w.heap.size, 0, none⟩) HZ.out).trans HC.out
 clear hown hbA hcA
 go_enter Tryz.func82, Tryz.ntmps82
 go_upto_region 2 with (fail)
 clear hwA
 go_wp2_with (first
  | (refine YJ (H := Unit) _ rfl _ (.const (.int .i64 1)) _ 125 rfl 3 124 keyI8 Tryz.underlying125 wrElem (w.heap.size + 1) 0 _ rfl HO.out (by decide) (.int .i64 1) (.agg #[.func (.func 122) #[] #[]]) (.int .i64 1) rfl rfl (kI8 1 (by decide) (by decide)) (wrN 122) [] (wrElem_of _) ?_; intro w1 ho1 hg1; have HO1 := Hi ho1; have hb1 := hb.grown hg1 (by simp; omega) (fun j hj => by cases hj; exact Nat.le_refl _); have c1 := (hb1.cell (p := ⟨w.heap.size, 0, none⟩) HZ.out).trans HC.out; clear ho1 hg1)
  | (refine YJ (H := Unit) _ rfl _ (.const (.int .i64 2)) _ 125 rfl 3 124 keyI8 Tryz.underlying125 wrElem (w.heap.size + 1) 1 _ rfl HO1.out (by decide) (.int .i64 2) (.agg #[.func (.func 122) #[] #[]]) (.int .i64 2) rfl rfl (kI8 2 (by decide) (by decide)) (wrN 122) [] (wrElem_of _) ?_; intro w2 ho2 hg2; have HO2 := Hi ho2; have hb2 := hb1.grown hg2 (by have := hb1.size; omega) (fun j hj => by cases hj; exact Nat.le_refl _); have c2 := (hb2.cell (p := ⟨w.heap.size, 0, none⟩) HZ.out).trans HC.out; clear ho2 hg2)
  | (refine YJ (H := Unit) _ rfl _ (.const (.int .i64 3)) _ 125 rfl 3 124 keyI8 Tryz.underlying125 wrElem (w.heap.size + 1) 2 _ rfl HO2.out (by decide) (.int .i64 3) (.agg #[.func (.func 122) #[] #[]]) (.int .i64 3) rfl rfl (kI8 3 (by decide) (by decide)) (wrN 122) [] (wrElem_of _) ?_; intro w3 ho3 hg3; have HO3 := Hi ho3; have hb3 := hb2.grown hg3 (by have := hb2.size; omega) (fun j hj => by cases hj; exact Nat.le_refl _); have c3 := (hb3.cell (p := ⟨w.heap.size, 0, none⟩) HZ.out).trans HC.out; clear ho3 hg3)
  | (refine YJ (H := Unit) _ rfl _ (.const (.int .i64 4)) _ 125 rfl 3 124 keyI8 Tryz.underlying125 wrElem (w.heap.size + 1) 3 _ rfl HO3.out (by decide) (.int .i64 4) (.agg #[.func (.func 122) #[] #[]]) (.int .i64 4) rfl rfl (kI8 4 (by decide) (by decide)) (wrN 122) [] (wrElem_of _) ?_; intro w4 ho4 hg4; have HO4 := Hi ho4; have hb4 := hb3.grown hg4 (by have := hb3.size; omega) (fun j hj => by cases hj; exact Nat.le_refl _); have c4 := (hb4.cell (p := ⟨w.heap.size, 0, none⟩) HZ.out).trans HC.out; clear ho4 hg4)
  | (refine YJ (H := Unit) _ rfl _ (.const (.int .i64 5)) _ 125 rfl 3 124 keyI8 Tryz.underlying125 wrElem (w.heap.size + 1) 4 _ rfl HO4.out (by decide) (.int .i64 5) (.agg #[.func (.func 123) #[] #[]]) (.int .i64 5) rfl rfl (kI8 5 (by decide) (by decide)) (wrN 123) [] (wrElem_of _) ?_; intro w5 ho5 hg5; have HO5 := Hi ho5; have hb5 := hb4.grown hg5 (by have := hb4.size; omega) (fun j hj => by cases hj; exact Nat.le_refl _); have c5 := (hb5.cell (p := ⟨w.heap.size, 0, none⟩) HZ.out).trans HC.out; clear ho5 hg5)
  | (refine YJ (H := Unit) _ rfl _ (.const (.int .i64 6)) _ 125 rfl 3 124 keyI8 Tryz.underlying125 wrElem (w.heap.size + 1) 5 _ rfl HO5.out (by decide) (.int .i64 6) (.agg #[.func (.func 124) #[] #[]]) (.int .i64 6) rfl rfl (kI8 6 (by decide) (by decide)) (wrN 124) [] (wrElem_of _) ?_; intro w6 ho6 hg6; have HO6 := Hi ho6; have hb6 := hb5.grown hg6 (by have := hb5.size; omega) (fun j hj => by cases hj; exact Nat.le_refl _); have c6 := (hb6.cell (p := ⟨w.heap.size, 0, none⟩) HZ.out).trans HC.out; clear ho6 hg6)
  | (refine YJ (H := Unit) _ rfl _ (.const (.int .i64 7)) _ 125 rfl 3 124 keyI8 Tryz.underlying125 wrElem (w.heap.size + 1) 6 _ rfl HO6.out (by decide) (.int .i64 7) (.agg #[.func (.func 125) #[] #[]]) (.int .i64 7) rfl rfl (kI8 7 (by decide) (by decide)) (wrN 125) [] (wrElem_of _) ?_; intro w7 ho7 hg7; have HO7 := Hi ho7; have hb7 := hb6.grown hg7 (by have := hb6.size; omega) (fun j hj => by cases hj; exact Nat.le_refl _); have c7 := (hb7.cell (p := ⟨w.heap.size, 0, none⟩) HZ.out).trans HC.out; clear ho7 hg7)
  | (refine YJ (H := Unit) _ rfl _ (.const (.int .i64 8)) _ 125 rfl 3 124 keyI8 Tryz.underlying125 wrElem (w.heap.size + 1) 7 _ rfl HO7.out (by decide) (.int .i64 8) (.agg #[.func (.func 126) #[] #[]]) (.int .i64 8) rfl rfl (kI8 8 (by decide) (by decide)) (wrN 126) [] (wrElem_of _) ?_; intro w8 ho8 hg8; have HO8 := Hi ho8; have hb8 := hb7.grown hg8 (by have := hb7.size; omega) (fun j hj => by cases hj; exact Nat.le_refl _); have c8 := (hb8.cell (p := ⟨w.heap.size, 0, none⟩) HZ.out).trans HC.out; clear ho8 hg8))
 go_ret
 exact ⟨rfl, HO8.out, (HBA.out).trans (hb8.mono (Nat.le_succ _))⟩
structure RS (B bb bx g : Nat) (cs : Array Value) (l : List UInt8) (w : World) : Prop where
 put : PutB B bb g l w
 nb : bx ≠ bb
 ng : bx ≠ g
 row : w.heap[bx]? = some (.cells cs 26 (0, 0))
 env : EnvB B w
theorem RS.below {B bb bx g : Nat} {cs : Array Value} {l : List UInt8} {w w' : World} (h : RS B bb bx g cs l w) (hb : Below w.heap.size w w') : RS B bb bx g cs l w' :=
 ⟨h.put.below hb, h.nb, h.ng, (hb.block bx (Array.getElem?_eq_some_iff.1 h.row).1).trans h.row, h.env.below (hb.mono h.put.hw)⟩
theorem RS.start {B bb g : Nat} {l : List UInt8} {w : World} (h : PutB B bb g l w) (he : EnvB B w) (cs : Array Value) : RS B bb w.heap.size g cs l (w.alloc (.cells cs 26)) := by
 have hb := YB w (.cells cs 26)
 have h1 := h.blt
 have h2 := h.glt
 exact ⟨h.below hb, by omega, by omega, YD w _, he.below (hb.mono h.hw)⟩
theorem rs_put {B bb bx g : Nat} {cs : Array Value} {l : List UInt8} (p : List UInt8) (hl : l.length ≤ 10000000) (hp : p.length ≤ 10000000) {w : World} (h : RS B bb bx g cs l w) :
 Calls Tryz.prog 80 #[.string ⟨p.toArray⟩, .pointer (some ⟨bb, 0, none⟩)] w fun e w' => e = .returned (.tuple #[]) ∧ (∃ g', RS B bb bx g' cs (l ++ 32 :: p) w') ∧ Below B w w' :=
 (cput_any B bb g l p hl hp w h.put).mono fun e w' ⟨he, ⟨g', hP, hor, hO⟩, hb⟩ => by
  have hx := (Array.getElem?_eq_some_iff.1 h.row).1
  refine ⟨he, ⟨g', hP, h.nb, ?_, (hO bx hx h.nb h.ng).trans h.row, h.env.below hb⟩, hb⟩
  have h2 := h.ng
  rcases hor with rfl | hor
  · exact h2
  · omega
def WrPost (B bb : Nat) (l : List UInt8) (w : World) (e : Ending) (w' : World) : Prop := e = .returned (.tuple #[]) ∧ (∃ g', PutB B bb g' l w') ∧ Below B w w'
section
variable (B bb g : Nat) (l : List UInt8) (A1 A2 : Option Addr) (k1 k2 : Nat) (w : World)
theorem wbare_any (cv : Array Value) (hp : PutB B bb g l w) :
 Calls Tryz.prog 122 #[.agg cv, .func (.func 80) #[] #[.pointer (some ⟨bb, 0, none⟩)]] w (WrPost B bb l w) := by
 have HB := Hi (fun o => YB w o)
 have HP := Hi hp
 clear hp
 go_enter Tryz.func122, Tryz.ntmps122
 go_wp2_with fail
 go_end0
 exact ⟨rfl, ⟨g, HP.out.below (HB.out _)⟩, (HB.out _).mono HP.out.hw⟩
theorem wselect_any (a : CI) (hl : l.length ≤ 1000000) (l3 : a.mbox.length ≤ 100000) (hp : PutB B bb g l w) (he : EnvB B w) :
 Calls Tryz.prog 123 #[ciV a A1 A2 k1 k2, .func (.func 80) #[] #[.pointer (some ⟨bb, 0, none⟩)]] w (WrPost B bb (l ++ 32 :: mboxT a.mbox) w) := by
 have HS := Hi (RS.start hp he #[.string ⟨a.tag.toArray⟩, .int .i64 a.kind, .string ⟨a.mbox.toArray⟩, .slice A1 a.set.length k1, .int .i64 a.items, .int .i64 a.mode, .bool a.silent, .int .u8 a.flags, .slice A2 a.data.length k2])
 have HB := Hi ((YB w (.cells #[.string ⟨a.tag.toArray⟩, .int .i64 a.kind, .string ⟨a.mbox.toArray⟩, .slice A1 a.set.length k1, .int .i64 a.items, .int .i64 a.mode, .bool a.silent, .int .u8 a.flags, .slice A2 a.data.length k2] 26)).mono hp.hw)
 have MB := Hi (fun W (h : Env W) => cmbox_any a.mbox (by omega) W h)
 have ML := Hi (mboxT_len (b := a.mbox) (by omega))
 clear hp he
 unfold ciV at *
 generalize hX : l ++ 32 :: mboxT a.mbox = X
 have HX := Hi hX
 clear hX
 go_enter Tryz.func123, Tryz.ntmps123
 go_upto_region 1 with (fail)
 generalize w.alloc (.cells #[.string ⟨a.tag.toArray⟩, .int .i64 a.kind, .string ⟨a.mbox.toArray⟩, .slice A1 a.set.length k1, .int .i64 a.items, .int .i64 a.mode, .bool a.silent, .int .u8 a.flags, .slice A2 a.data.length k2] 26) = W2 at *
 obtain ⟨x0, x1, x2, x3, x4, x5, x6, x7, x8⟩ := ZS HS.out.row
 have MB2 := Hi (MB.out W2 HS.out.env.env)
 clear MB
 go_wp2_with fail
 refine MB2.out.mono ?_
 rintro e w3 ⟨rfl, hb3⟩
 have P3 := Hi (rs_put (mboxT a.mbox) (by omega) (by have := ML.out; omega) (HS.out.below hb3))
 have HB3 := Hi (HB.out.trans (hb3.mono HS.out.put.hw))
 clear hb3 x0 x1 x2 x3 x4 x5 x6 x7 x8
 go_wp2_with fail
 refine P3.out.mono ?_
 rintro e w4 ⟨rfl, ⟨g', h4⟩, hb4⟩
 have H4 := Hi h4
 have HB4 := Hi (HB3.out.trans hb4)
 clear h4 hb4
 go_wp2_with fail
 go_end0
 exact ⟨rfl, ⟨g', by rw [← HX.out]; exact H4.out.put⟩, HB4.out⟩
theorem wappend_any (tag mbox data : List UInt8) (set : List R) (kind items mode : Int) (flags : Nat) (silent : Bool) (hl : l.length ≤ 1000000) (l3 : mbox.length ≤ 100000) (l2 : data.length ≤ 100000) (hf : flags ≤ 31) (hp : PutB B bb g l w) (he : EnvB B w) (s2 : ByAt B w A2 k2 data) :
 Calls Tryz.prog 124 #[ciV ⟨tag, kind, mbox, set, items, mode, silent, flags, data⟩ A1 A2 k1 k2, .func (.func 80) #[] #[.pointer (some ⟨bb, 0, none⟩)]] w
  (WrPost B bb (l ++ ((32 :: mboxT mbox) ++ ((if 0 < flags then 32 :: listL flags else []) ++ 32 :: YS data))) w) := by
 have HS := Hi (RS.start hp he #[.string ⟨tag.toArray⟩, .int .i64 kind, .string ⟨mbox.toArray⟩, .slice A1 set.length k1, .int .i64 items, .int .i64 mode, .bool silent, .int .u8 (flags : Int), .slice A2 data.length k2])
 have HB := Hi ((YB w (.cells #[.string ⟨tag.toArray⟩, .int .i64 kind, .string ⟨mbox.toArray⟩, .slice A1 set.length k1, .int .i64 items, .int .i64 mode, .bool silent, .int .u8 (flags : Int), .slice A2 data.length k2] 26)).mono hp.hw)
 have MB := Hi (fun W (h : Env W) => cmbox_any mbox (by omega) W h)
 have LT := Hi (fun W (h : Env W) (hW : Below B w W) => literal_any B A2 k2 data (by omega) W h (s2.below hW))
 have LI := Hi (fun W => flist_any flags (by omega) W)
 have ML := Hi (mboxT_len (b := mbox) (by omega))
 have LL := Hi (lit_len8 (b := data) (by omega))
 have FL := Hi (listL_len8 hf)
 clear hp he s2
 obtain ⟨m, hm⟩ : ∃ m, data.length = m := ⟨_, rfl⟩
 unfold ciV at *
 rw [hm] at HS HB LT
 simp only [hm]
 clear hm
 generalize hX : l ++ ((32 :: mboxT mbox) ++ ((if 0 < flags then 32 :: listL flags else []) ++ 32 :: YS data)) = X
 have HX := Hi hX
 clear hX
 go_enter Tryz.func124, Tryz.ntmps124
 go_upto_region 1 with (fail)
 generalize w.alloc (.cells #[.string ⟨tag.toArray⟩, .int .i64 kind, .string ⟨mbox.toArray⟩, .slice A1 set.length k1, .int .i64 items, .int .i64 mode, .bool silent, .int .u8 (flags : Int), .slice A2 m k2] 26) = W2 at *
 obtain ⟨x0, x1, x2, x3, x4, x5, x6, x7, x8⟩ := ZS HS.out.row
 have MB2 := Hi (MB.out W2 HS.out.env.env)
 clear MB
 go_wp2_with fail
 refine MB2.out.mono ?_
 rintro e w3 ⟨rfl, hb3⟩
 have P3 := Hi (rs_put (mboxT mbox) (by omega) (by have := ML.out; omega) (HS.out.below hb3))
 have HB3 := Hi (HB.out.trans (hb3.mono HS.out.put.hw))
 clear hb3 x0 x1 x2 x3 x4 x5 x6 x7 x8 HS
 go_wp2_with fail
 refine P3.out.mono ?_
 rintro e w4 ⟨rfl, ⟨g', h4⟩, hb4⟩
 have H4 := Hi h4
 have HB4 := Hi (HB3.out.trans hb4)
 have N4 : Hid ((l ++ 32 :: mboxT mbox).length ≤ 2000000) := Hi (by rw [List.length_append, List.length_cons]; have := ML.out; omega)
 clear h4 hb4
 obtain ⟨x0, x1, x2, x3, x4, x5, x6, x7, x8⟩ := ZS H4.out.row
 by_cases hfl : 0 < flags
 · have d1 : ((flags : Int) != 0) = true := by simp; omega
   have d2 : (flags != 0) = true := by simp; omega
   have HF := Hi (show (if 0 < flags then 32 :: listL flags else []) = 32 :: listL flags from if_pos hfl)
   clear hfl
   go_wp2_with fail
   refine (LI.out _).mono ?_
   rintro e w5 ⟨rfl, hb5⟩
   have P5 := Hi (rs_put (listL flags) (by have := N4.out; omega) (by have := FL.out; omega) (H4.out.below hb5))
   have HB5 := Hi (HB4.out.trans (hb5.mono H4.out.put.hw))
   clear hb5 x0 x1 x2 x3 x4 x5 x6 x7 x8
   go_wp2_with fail
   refine P5.out.mono ?_
   rintro e w6 ⟨rfl, ⟨g6, h6⟩, hb6⟩
   have H6 := Hi h6
   have HB6 := Hi (HB5.out.trans hb6)
   have LT6 := Hi (LT.out w6 H6.out.env.env HB6.out)
   clear h6 hb6
   obtain ⟨x0, x1, x2, x3, x4, x5, x6, x7, x8⟩ := ZS H6.out.row
   go_wp2_with fail
   refine LT6.out.mono ?_
   rintro e w7 ⟨A', c', rfl, hy, hb7⟩
   have cv := convS _ w7 A' c' _ (YS data) hy rfl
   have P7 := Hi (rs_put (YS data) (by rw [List.length_append, List.length_cons]; have := FL.out; have := N4.out; omega) (by have := LL.out; omega) (H6.out.below hb7))
   have HB7 := Hi (HB6.out.trans (hb7.mono H6.out.put.hw))
   clear hb7 hy x0 x1 x2 x3 x4 x5 x6 x7 x8
   generalize (YS data).length = q at *
   go_wp2_with fail
   refine P7.out.mono ?_
   rintro e w8 ⟨rfl, ⟨g8, h8⟩, hb8⟩
   have H8 := Hi h8
   have HB8 := Hi (HB7.out.trans hb8)
   clear h8 hb8
   go_wp2_with fail
   go_end0
   exact ⟨rfl, ⟨g8, by rw [← HX.out, HF.out]; simpa using H8.out.put⟩, HB8.out⟩
 · have d1 : ((flags : Int) != 0) = false := by simp; omega
   have d2 : (flags != 0) = false := by simp; omega
   have HF := Hi (show (if 0 < flags then 32 :: listL flags else []) = [] from if_neg hfl)
   have LT4 := Hi (LT.out w4 H4.out.env.env HB4.out)
   clear hfl
   go_wp2_with fail
   refine LT4.out.mono ?_
   rintro e w7 ⟨A', c', rfl, hy, hb7⟩
   have cv := convS _ w7 A' c' _ (YS data) hy rfl
   have P7 := Hi (rs_put (YS data) (by have := N4.out; omega) (by have := LL.out; omega) (H4.out.below hb7))
   have HB7 := Hi (HB4.out.trans (hb7.mono H4.out.put.hw))
   clear hb7 hy x0 x1 x2 x3 x4 x5 x6 x7 x8
   generalize (YS data).length = q at *
   go_wp2_with fail
   refine P7.out.mono ?_
   rintro e w8 ⟨rfl, ⟨g8, h8⟩, hb8⟩
   have H8 := Hi h8
   have HB8 := Hi (HB7.out.trans hb8)
   clear h8 hb8
   go_wp2_with fail
   go_end0
   exact ⟨rfl, ⟨g8, by rw [← HX.out, HF.out]; simpa using H8.out.put⟩, HB8.out⟩
theorem wfetch_any (tag mbox data : List UInt8) (set : List R) (kind mode flags : Int) (items : Nat) (silent : Bool) (hl : l.length ≤ 1000000) (l1 : set.length ≤ 10000) (hb : ∀ r ∈ set, r.1 ≤ 4294967295 ∧ r.2 ≤ 4294967295) (hi : items ≤ 31) (hp : PutB B bb g l w) (he : EnvB B w) (s1 : SlAt encR 2 w A1 set) :
 Calls Tryz.prog 125 #[ciV ⟨tag, kind, mbox, set, items, mode, silent, flags, data⟩ A1 A2 k1 k2, .func (.func 80) #[] #[.pointer (some ⟨bb, 0, none⟩)]] w
  (WrPost B bb (l ++ ((32 :: printL set) ++ 32 :: itemsT items)) w) := by
 have hal := YB w (.cells #[.string ⟨tag.toArray⟩, .int .i64 kind, .string ⟨mbox.toArray⟩, .slice A1 set.length k1, .int .i64 (items : Int), .int .i64 mode, .bool silent, .int .u8 flags, .slice A2 data.length k2] 26)
 have HS := Hi (RS.start hp he #[.string ⟨tag.toArray⟩, .int .i64 kind, .string ⟨mbox.toArray⟩, .slice A1 set.length k1, .int .i64 (items : Int), .int .i64 mode, .bool silent, .int .u8 flags, .slice A2 data.length k2])
 have HB := Hi (hal.mono hp.hw)
 have PR := Hi (print_any A1 k1 set (by omega) hb _ (s1.below hal) HS.out.env.env)
 have NM := Hi (fun W => pnames_any items (by omega) W)
 have JN := Hi (fun v (W : World) base (hO : W.ownsRow base 9 1 v ((eachL items).map ZB).length (YF encS ((eachL items).map ZB))) => joinS_any ((eachL items).map ZB) v base W hO (by rw [List.length_map]; have := bitsK_le items 5; exact Nat.le_trans this (by decide)) (by
  have h := itemsT_len8 hi
  unfold itemsT at h
  simp only [List.length_cons, List.length_append, List.length_nil] at h
  omega))
 have PL := Hi (printL_len8 hb)
 have IL := Hi (itemsT_len8 hi)
 have HI := Hi (show itemsT items = 40 :: (spL ((eachL items).map ZB) ++ [41]) from rfl)
 clear hp he s1 hal
 obtain ⟨m, hm⟩ : ∃ m, set.length = m := ⟨_, rfl⟩
 unfold ciV at *
 rw [hm] at HS HB PR PL l1
 simp only [hm]
 clear hm
 generalize (eachL items).map ZB = ns at *
 generalize hX : l ++ ((32 :: printL set) ++ 32 :: itemsT items) = X
 have HX := Hi hX
 clear hX
 go_enter Tryz.func125, Tryz.ntmps125
 go_upto_region 1 with (fail)
 generalize w.alloc (.cells #[.string ⟨tag.toArray⟩, .int .i64 kind, .string ⟨mbox.toArray⟩, .slice A1 m k1, .int .i64 (items : Int), .int .i64 mode, .bool silent, .int .u8 flags, .slice A2 data.length k2] 26) = W2 at *
 obtain ⟨x0, x1, x2, x3, x4, x5, x6, x7, x8⟩ := ZS HS.out.row
 go_wp2_with fail
 refine PR.out.mono ?_
 rintro e w3 ⟨rfl, hb3⟩
 have P3 := Hi (rs_put (printL set) (by omega) (by have := PL.out; omega) (HS.out.below hb3))
 have HB3 := Hi (HB.out.trans (hb3.mono HS.out.put.hw))
 clear hb3 x0 x1 x2 x3 x4 x5 x6 x7 x8 HS PR
 go_wp2_with fail
 refine P3.out.mono ?_
 rintro e w4 ⟨rfl, ⟨g', h4⟩, hb4⟩
 have H4 := Hi h4
 have HB4 := Hi (HB3.out.trans hb4)
 have N4 : Hid ((l ++ 32 :: printL set).length ≤ 2000000) := Hi (by rw [List.length_append, List.length_cons]; have := PL.out; omega)
 clear h4 hb4
 obtain ⟨x0, x1, x2, x3, x4, x5, x6, x7, x8⟩ := ZS H4.out.row
 go_wp2_with fail
 refine (NM.out _).mono ?_
 rintro e w5 ⟨v, rfl, hO, hb5⟩
 have J5 := Hi (JN.out v w5 _ hO)
 have H5 := Hi (H4.out.below hb5)
 have HB5 := Hi (HB4.out.trans (hb5.mono H4.out.put.hw))
 obtain ⟨Av, cv, rfl⟩ := YV hO
 clear hb5 hO x0 x1 x2 x3 x4 x5 x6 x7 x8 NM JN
 go_wp2_with fail
 refine J5.out.mono ?_
 rintro e w6 ⟨rfl, hb6⟩
 have hsz : (ByteArray.mk (spL ns).toArray).size ≤ 60 := by
  rw [bsz]
  have h := IL.out
  rw [HI.out] at h
  simp only [List.length_cons, List.length_append, List.length_nil] at h
  omega
 have HC := Hi (show ByteArray.mk #[40] ++ ByteArray.mk (spL ns).toArray ++ ByteArray.mk #[41] = ByteArray.mk (itemsT items).toArray by
  rw [HI.out]
  apply ByteArray.ext
  simp [ByteArray.data_append])
 have P6 := Hi (rs_put (itemsT items) (by have := N4.out; omega) (by have := IL.out; omega) (H5.out.below hb6))
 have HB6 := Hi (HB5.out.trans (hb6.mono H5.out.put.hw))
 rw [← HC.out] at P6
 have z1 : (ByteArray.mk #[40]).size = 1 := rfl
 have z2 : (ByteArray.mk #[41]).size = 1 := rfl
 clear hb6
 generalize ByteArray.mk (spL ns).toArray = sb at *
 go_wp2_with fail
 refine P6.out.mono ?_
 rintro e w8 ⟨rfl, ⟨g8, h8⟩, hb8⟩
 have H8 := Hi h8
 have HB8 := Hi (HB6.out.trans hb8)
 clear h8 hb8
 go_wp2_with fail
 go_end0
 exact ⟨rfl, ⟨g8, by rw [← HX.out]; simpa using H8.out.put⟩, HB8.out⟩
theorem wstore_any (tag mbox data : List UInt8) (set : List R) (kind items : Int) (mode flags : Nat) (silent : Bool) (hl : l.length ≤ 1000000) (l1 : set.length ≤ 10000) (hb : ∀ r ∈ set, r.1 ≤ 4294967295 ∧ r.2 ≤ 4294967295) (hm2 : mode ≤ 2) (hf : flags ≤ 31) (hp : PutB B bb g l w) (he : EnvB B w) (s1 : SlAt encR 2 w A1 set) :
 Calls Tryz.prog 126 #[ciV ⟨tag, kind, mbox, set, items, mode, silent, flags, data⟩ A1 A2 k1 k2, .func (.func 80) #[] #[.pointer (some ⟨bb, 0, none⟩)]] w
  (WrPost B bb (l ++ ((32 :: printL set) ++ ((32 :: modeT mode silent) ++ 32 :: listL flags))) w) := by
 have hal := YB w (.cells #[.string ⟨tag.toArray⟩, .int .i64 kind, .string ⟨mbox.toArray⟩, .slice A1 set.length k1, .int .i64 items, .int .i64 (mode : Int), .bool silent, .int .u8 (flags : Int), .slice A2 data.length k2] 26)
 have HS := Hi (RS.start hp he #[.string ⟨tag.toArray⟩, .int .i64 kind, .string ⟨mbox.toArray⟩, .slice A1 set.length k1, .int .i64 items, .int .i64 (mode : Int), .bool silent, .int .u8 (flags : Int), .slice A2 data.length k2])
 have HB := Hi (hal.mono hp.hw)
 have PR := Hi (print_any A1 k1 set (by omega) hb _ (s1.below hal) HS.out.env.env)
 have MO := Hi (fun W => pmode_any mode hm2 silent W)
 have LI := Hi (fun W => flist_any flags (by omega) W)
 have PL := Hi (printL_len8 hb)
 have OL := Hi (modeT_len8 mode silent)
 have FL := Hi (listL_len8 hf)
 clear hp he s1 hal
 obtain ⟨m, hm⟩ : ∃ m, set.length = m := ⟨_, rfl⟩
 unfold ciV at *
 rw [hm] at HS HB PR PL l1
 simp only [hm]
 clear hm
 generalize hX : l ++ ((32 :: printL set) ++ ((32 :: modeT mode silent) ++ 32 :: listL flags)) = X
 have HX := Hi hX
 clear hX
 go_enter Tryz.func126, Tryz.ntmps126
 go_upto_region 1 with (fail)
 generalize w.alloc (.cells #[.string ⟨tag.toArray⟩, .int .i64 kind, .string ⟨mbox.toArray⟩, .slice A1 m k1, .int .i64 items, .int .i64 (mode : Int), .bool silent, .int .u8 (flags : Int), .slice A2 data.length k2] 26) = W2 at *
 obtain ⟨x0, x1, x2, x3, x4, x5, x6, x7, x8⟩ := ZS HS.out.row
 go_wp2_with fail
 refine PR.out.mono ?_
 rintro e w3 ⟨rfl, hb3⟩
 have P3 := Hi (rs_put (printL set) (by omega) (by have := PL.out; omega) (HS.out.below hb3))
 have HB3 := Hi (HB.out.trans (hb3.mono HS.out.put.hw))
 clear hb3 x0 x1 x2 x3 x4 x5 x6 x7 x8 HS PR
 go_wp2_with fail
 refine P3.out.mono ?_
 rintro e w4 ⟨rfl, ⟨g', h4⟩, hb4⟩
 have H4 := Hi h4
 have HB4 := Hi (HB3.out.trans hb4)
 have N4 : Hid ((l ++ 32 :: printL set).length ≤ 2000000) := Hi (by rw [List.length_append, List.length_cons]; have := PL.out; omega)
 clear h4 hb4
 obtain ⟨x0, x1, x2, x3, x4, x5, x6, x7, x8⟩ := ZS H4.out.row
 have P5 := Hi (rs_put (modeT mode silent) (by have := N4.out; omega) (by have := OL.out; omega) H4.out)
 go_wp2_with fail
 refine (MO.out _).mono ?_
 rintro e w5 ⟨rfl, rfl⟩
 go_wp2_with fail
 refine P5.out.mono ?_
 rintro e w6 ⟨rfl, ⟨g6, h6⟩, hb6⟩
 have H6 := Hi h6
 have HB6 := Hi (HB4.out.trans hb6)
 clear h6 hb6 x0 x1 x2 x3 x4 x5 x6 x7 x8
 obtain ⟨x0, x1, x2, x3, x4, x5, x6, x7, x8⟩ := ZS H6.out.row
 go_wp2_with fail
 refine (LI.out _).mono ?_
 rintro e w7 ⟨rfl, hb7⟩
 have P7 := Hi (rs_put (listL flags) (by rw [List.length_append, List.length_cons]; have := N4.out; have := OL.out; omega) (by have := FL.out; omega) (H6.out.below hb7))
 have HB7 := Hi (HB6.out.trans (hb7.mono H6.out.put.hw))
 clear hb7 x0 x1 x2 x3 x4 x5 x6 x7 x8
 go_wp2_with fail
 refine P7.out.mono ?_
 rintro e w8 ⟨rfl, ⟨g8, h8⟩, hb8⟩
 have H8 := Hi h8
 have HB8 := Hi (HB7.out.trans hb8)
 clear h8 hb8
 go_wp2_with fail
 go_end0
 exact ⟨rfl, ⟨g8, by rw [← HX.out]; simpa using H8.out.put⟩, HB8.out⟩
end
end
end Go.Proofs.YtpgfnlhfciacoaaGreatDoor
