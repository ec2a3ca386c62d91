import Derived.Test.YtpgfnlhfciacoaaGreatDoorPHg
import Derived.Test.YtpgfnlhfciacoaaGreatDoorPTokens
import Derived.LoopIn
set_option maxRecDepth 100000
set_option maxHeartbeats 4000000
open Go.Lib renaming hid → Hi
namespace Go.Proofs.YtpgfnlhfciacoaaGreatDoor
open Go.RowKit
theorem wordByte_any (n : Nat) (w : World) (_h1 : n ≤ 255) (b : Bool) (hb : decide (33 ≤ n ∧ n ≤ 126 ∧ n ≠ 34 ∧ n ≠ 40 ∧ n ≠ 41 ∧ n ≠ 123) = b) :
 Calls Tryz.prog 137 #[.int .u8 (n : Int)] w fun e w' => e = .returned (.bool b) ∧ w = w' := by
 subst hb
 by_cases hs : n = 40 ∨ n = 41 ∨ n = 34 ∨ n = 123
 · rcases hs with rfl | rfl | rfl | rfl
   all_goals
    go_enter Tryz.func137, Tryz.ntmps137
    go_wp2
    go_ret
    exact ⟨rfl, rfl⟩
 · have h2 : ¬ n = 40 := by omega
   have h3 : ¬ n = 41 := by omega
   have h4 : ¬ n = 34 := by omega
   have h5 : ¬ n = 123 := by omega
   by_cases ha : 32 < n
   · by_cases hc : n < 127
     · have R := Hi (show decide (33 ≤ n ∧ n ≤ 126 ∧ n ≠ 34 ∧ n ≠ 40 ∧ n ≠ 41 ∧ n ≠ 123) = true by simp; omega)
       have e1 : ((n : Int) != 40) = true := by simp; omega
       have e2 : ((n : Int) != 41) = true := by simp; omega
       have e3 : ((n : Int) != 34) = true := by simp; omega
       have e4 : ((n : Int) != 123) = true := by simp; omega
       clear hs
       go_enter Tryz.func137, Tryz.ntmps137
       go_wp2
       go_ret
       exact ⟨YU (by rw [R.out]), rfl⟩
     · have R := Hi (show decide (33 ≤ n ∧ n ≤ 126 ∧ n ≠ 34 ∧ n ≠ 40 ∧ n ≠ 41 ∧ n ≠ 123) = false by simp; omega)
       have d1 : decide ((n : Int) < 127) = false := by simp; omega
       clear hs
       go_enter Tryz.func137, Tryz.ntmps137
       go_wp2
       go_ret
       exact ⟨YU (by rw [R.out]), rfl⟩
   · have R := Hi (show decide (33 ≤ n ∧ n ≤ 126 ∧ n ≠ 34 ∧ n ≠ 40 ∧ n ≠ 41 ∧ n ≠ 123) = false by simp; omega)
     have d1 : decide ((32 : Int) < (n : Int)) = false := by simp; omega
     clear hs
     go_enter Tryz.func137, Tryz.ntmps137
     go_wp2
     go_ret
     exact ⟨YU (by rw [R.out]), rfl⟩
def NtPost (l : List UInt8) (k : Nat) (w : World) (e : Ending) (w' : World) : Prop :=
 Below w.heap.size w w' ∧
 ((k = l.length ∧ e = .returned (.tuple #[.agg #[.int .i64 0, .string ⟨#[]⟩, .int .i64 (k : Int)], .int .i64 (k : Int), .bool true])) ∨
 (∃ kd x n, oneR (l.drop k) = some (kd, x, n) ∧ e = .returned (.tuple #[.agg #[.int .i64 (kd : Nat), .string ⟨x.toArray⟩, .int .i64 (k : Int)], .int .i64 ((k + n : Nat) : Int), .bool true])) ∨
 (k < l.length ∧ oneR (l.drop k) = none ∧ ∃ a s m, e = .returned (.tuple #[.agg #[.int .i64 a, .string s, .int .i64 (k : Int)], .int .i64 m, .bool false])))
theorem conv_far {w : World} {A : Option Addr} {c r : Nat} {x : List UInt8} {a b : Int} {s : ByteArray} {T : TypeId} {fr : Nat × Nat} (h : ByAt w.heap.size w A c x) (ht : w.heap[r]? = some (.cells #[.int .i64 a, .string s, .int .i64 b] T fr)) (v : Value) :
 (convert 24 9 (.slice A x.length c)).run Tryz.prog (w.setCell ⟨r, 0, none⟩ v) = .ok (.string ⟨x.toArray⟩) (w.setCell ⟨r, 0, none⟩ v) := by
 have hB : ByAt w.heap.size (w.setCell ⟨r, 0, none⟩ v) A c x := by
  rcases h.lies with rfl | ⟨b', off, rfl, hlt, hw, hc⟩
  · exact .nil _ _ _ _
  · by_cases hx : x = []
    · subst hx
      exact .nil _ _ _ _
    · refine h.other (ZG w r 0 v) (fun b2 off2 e hbr => ?_)
      injection e with e
      injection e with e1 e2
      subst e1 hbr
      have h0 := hc 0 (List.length_pos_iff.2 hx)
      rw [cell_of_row w b' _ _ _ _ ht] at h0
      match hoff : off + 0, h0 with
      | 0, h0 => simp at h0
      | 1, h0 => simp at h0
      | 2, h0 => simp at h0
      | n + 3, h0 => simp at h0
 exact convS _ _ A c _ x hB rfl
def nxW (w2 : World) (r : Nat) (a s k : Value) : World := ((((w2.setCell ⟨r + 1, 0, none⟩ a).setCell ⟨r + 1, 1, none⟩ s).setCell ⟨r, 0, none⟩ a).setCell ⟨r, 1, none⟩ s).setCell ⟨r, 2, none⟩ k
theorem nxW_cells {w2 : World} {r : Nat} {c0 c1 c2 : Value} {T : TypeId} (h : w2.heap[r]? = some (.cells #[c0, c1, c2] T (0, 0))) (a s k : Value) :
 (nxW w2 r a s k).cell? ⟨r, 0, none⟩ = some a ∧ (nxW w2 r a s k).cell? ⟨r, 1, none⟩ = some s ∧ (nxW w2 r a s k).cell? ⟨r, 2, none⟩ = some k := by
 have hl := (Array.getElem?_eq_some_iff.1 h).1
 have h1 : ((w2.setCell ⟨r + 1, 0, none⟩ a).setCell ⟨r + 1, 1, none⟩ s).heap[r]? = some (.cells #[c0, c1, c2] T (0, 0)) := by
  rw [(ZG _ (r + 1) 1 s).block r (by simp [World.setCell]; exact hl) (fun e => by injection e; omega), (ZG _ (r + 1) 0 a).block r hl (fun e => by injection e; omega)]
  exact h
 have h2 := Joins.block_setCell (i := 2) (Joins.block_setCell (i := 1) (Joins.block_setCell (i := 0) h1 a) s) k
 have h3 : (nxW w2 r a s k).heap[r]? = some (.cells #[a, s, k] T (0, 0)) := h2
 exact ⟨cell_of_row _ _ 0 _ _ _ h3, cell_of_row _ _ 1 _ _ _ h3, cell_of_row _ _ 2 _ _ _ h3⟩
theorem nxW_below {w w2 : World} (h : Below w.heap.size w w2) (a s k : Value) : Below w.heap.size w (nxW w2 w.heap.size a s k) :=
 ((((h.setCell (p := ⟨w.heap.size + 1, 0, none⟩) (Nat.le_succ _) a).setCell (p := ⟨w.heap.size + 1, 1, none⟩) (Nat.le_succ _) s).setCell (p := ⟨w.heap.size, 0, none⟩) (Nat.le_refl _) a).setCell (p := ⟨w.heap.size, 1, none⟩) (Nat.le_refl _) s).setCell (p := ⟨w.heap.size, 2, none⟩) (Nat.le_refl _) k
def NsPost (kd k : Nat) (o : Option (List UInt8 × Nat)) (e : Ending) : Prop :=
 (∃ x n, o = some (x, n) ∧ e = .returned (.tuple #[.agg #[.int .i64 (kd : Int), .string ⟨x.toArray⟩, .int .i64 (k : Int)], .int .i64 ((k + n : Nat) : Int), .bool true])) ∨
  (o = none ∧ ∃ a s m, e = .returned (.tuple #[.agg #[.int .i64 a, .string s, .int .i64 (k : Int)], .int .i64 m, .bool false]))
theorem next_end (A : Option Addr) (c n : Nat) (w : World) :
 Calls Tryz.prog 95 #[.slice A n c, .int .i64 (n : Int)] w fun e w' => e = .returned (.tuple #[.agg #[.int .i64 0, .string ⟨#[]⟩, .int .i64 (n : Int)], .int .i64 (n : Int), .bool true]) ∧ Below w.heap.size w w' := by
 go_enter Tryz.func95, Tryz.ntmps95
 go_wp2_with fail
 refine bodyPost_ret (v := .tuple #[.agg #[.int .i64 0, .string ⟨#[]⟩, .int .i64 (n : Int)], .int .i64 (n : Int), .bool true]) (by simp [results, Tryz.results95, go_sem]) rfl ⟨rfl, ZY (YB _ _) _⟩
theorem next_sp (b off c n k : Nat) (hk : k < n) (hn : n ≤ 1000000) (w : World) (hc : w.cell? ⟨b, off + k, none⟩ = some (.int .u8 32)) (hb : b < w.heap.size) :
 Calls Tryz.prog 95 #[.slice (some ⟨b, off, none⟩) n c, .int .i64 (k : Int)] w fun e w' => e = .returned (.tuple #[.agg #[.int .i64 1, .string ⟨#[]⟩, .int .i64 (k : Int)], .int .i64 ((k : Int) + 1), .bool true]) ∧ Below w.heap.size w w' := by
 have d0 : ((k : Int) == (n : Int)) = false := by simp; omega
 go_enter Tryz.func95, Tryz.ntmps95
 go_wp2_with fail
 refine bodyPost_ret (v := .tuple #[.agg #[.int .i64 1, .string ⟨#[]⟩, .int .i64 (k : Int)], .int .i64 ((k : Int) + 1), .bool true]) (by simp [results, Tryz.results95, go_sem]) rfl ⟨rfl, ZY (YB _ _) _⟩
theorem next_op (b off c n k : Nat) (hk : k < n) (hn : n ≤ 1000000) (w : World) (hc : w.cell? ⟨b, off + k, none⟩ = some (.int .u8 40)) (hb : b < w.heap.size) :
 Calls Tryz.prog 95 #[.slice (some ⟨b, off, none⟩) n c, .int .i64 (k : Int)] w fun e w' => e = .returned (.tuple #[.agg #[.int .i64 2, .string ⟨#[]⟩, .int .i64 (k : Int)], .int .i64 ((k : Int) + 1), .bool true]) ∧ Below w.heap.size w w' := by
 have d0 : ((k : Int) == (n : Int)) = false := by simp; omega
 go_enter Tryz.func95, Tryz.ntmps95
 go_wp2_with fail
 refine bodyPost_ret (v := .tuple #[.agg #[.int .i64 2, .string ⟨#[]⟩, .int .i64 (k : Int)], .int .i64 ((k : Int) + 1), .bool true]) (by simp [results, Tryz.results95, go_sem]) rfl ⟨rfl, ZY (YB _ _) _⟩
theorem next_cl (b off c n k : Nat) (hk : k < n) (hn : n ≤ 1000000) (w : World) (hc : w.cell? ⟨b, off + k, none⟩ = some (.int .u8 41)) (hb : b < w.heap.size) :
 Calls Tryz.prog 95 #[.slice (some ⟨b, off, none⟩) n c, .int .i64 (k : Int)] w fun e w' => e = .returned (.tuple #[.agg #[.int .i64 3, .string ⟨#[]⟩, .int .i64 (k : Int)], .int .i64 ((k : Int) + 1), .bool true]) ∧ Below w.heap.size w w' := by
 have d0 : ((k : Int) == (n : Int)) = false := by simp; omega
 go_enter Tryz.func95, Tryz.ntmps95
 go_wp2_with fail
 refine bodyPost_ret (v := .tuple #[.agg #[.int .i64 3, .string ⟨#[]⟩, .int .i64 (k : Int)], .int .i64 ((k : Int) + 1), .bool true]) (by simp [results, Tryz.results95, go_sem]) rfl ⟨rfl, ZY (YB _ _) _⟩
theorem next_Q (A : Option Addr) (c k : Nat) (l : List UInt8) (o : Option (List UInt8 × Nat)) (hk : k < l.length) (hn : l.length ≤ 1000000) (w : World) (hA : ByAt w.heap.size w A c l) (hy : l[k]? = some 34)
 (ho : scanQ l (k : Int) = o.map fun t => (t.1, k + t.2)) :
 Calls Tryz.prog 95 #[.slice A l.length c, .int .i64 (k : Int)] w fun e w' => Below w.heap.size w w' ∧ NsPost 5 k o e := by
 have d0 : ((k : Int) == (l.length : Int)) = false := by simp; omega
 obtain ⟨b, off, rfl, hb, hc⟩ := at_byte hA hy
 have hc : w.cell? ⟨b, off + k, none⟩ = some (.int .u8 34) := hc
 have B2 := ZY (YB w (.cells #[.int .i64 0, .string ⟨#[]⟩, .int .i64 0] 136)) (.cells #[.int .i64 0, .string ⟨#[]⟩, .int .i64 (k : Int)] 136)
 have S := refScanQuoted_any _ c (some ⟨b, off, none⟩) l (k : Int) (by omega) (by omega) hn _ (hA.grow B2)
 rw [ho] at S
 have r0 : ((w.alloc (.cells #[.int .i64 0, .string ⟨#[]⟩, .int .i64 0] 136)).alloc (.cells #[.int .i64 0, .string ⟨#[]⟩, .int .i64 (k : Int)] 136)).heap[w.heap.size]? = some (.cells #[.int .i64 0, .string ⟨#[]⟩, .int .i64 0] 136 (0, 0)) := ((YB _ _).block _ (by simp)).trans (YD w _)
 have t0 : ((w.alloc (.cells #[.int .i64 0, .string ⟨#[]⟩, .int .i64 0] 136)).alloc (.cells #[.int .i64 0, .string ⟨#[]⟩, .int .i64 (k : Int)] 136)).heap[w.heap.size + 1]? = some (.cells #[.int .i64 0, .string ⟨#[]⟩, .int .i64 (k : Int)] 136 (0, 0)) := by
  have := YD (w.alloc (.cells #[.int .i64 0, .string ⟨#[]⟩, .int .i64 0] 136)) (.cells #[.int .i64 0, .string ⟨#[]⟩, .int .i64 (k : Int)] 136)
  rwa [World.size_alloc] at this
 have S := Hi S
 have HB2 := Hi B2
 have HR0 := Hi r0
 have HT0 := Hi t0
 clear ho hA B2 r0 t0 hy
 go_enter Tryz.func95, Tryz.ntmps95
 go_wp2_with fail
 refine S.out.mono ?_
 rintro e w2 ⟨hp, hb2⟩
 have r2 := (hb2.block _ (by simp; omega)).trans HR0.out
 have t2 := (hb2.block _ (by simp)).trans HT0.out
 have HB := Hi (YA HB2.out hb2)
 have a0 := cell_of_row _ _ 0 _ _ _ r2
 have a1 := cell_of_row _ _ 1 _ _ _ r2
 have a2 := cell_of_row _ _ 2 _ _ _ r2
 have b0 := cell_of_row _ _ 0 _ _ _ t2
 have b1 := cell_of_row _ _ 1 _ _ _ t2
 have b2 := cell_of_row _ _ 2 _ _ _ t2
 have fa0 := Joins.unfrozen_of_block r2 0
 have fa1 := Joins.unfrozen_of_block r2 1
 have fa2 := Joins.unfrozen_of_block r2 2
 have fb0 := Joins.unfrozen_of_block t2 0
 have fb1 := Joins.unfrozen_of_block t2 1
 have HT2 := Hi t2
 have HR2 := Hi r2
 clear r2 t2 S
 rcases hp with ⟨P, m, A', c', hoe, rfl, hby⟩ | ⟨hoe, rfl⟩
 · obtain ⟨t, rfl, he⟩ := Option.map_eq_some_iff.1 hoe
   obtain ⟨x, n⟩ := t
   simp only [Prod.mk.injEq] at he
   obtain ⟨rfl, rfl⟩ := he
   have hcv := conv_far hby HT2.out (.int .i64 5)
   clear hby hb2 hoe
   go_wp2_with fail
   change bodyPost _ _ _ _ _ (nxW w2 w.heap.size (.int .i64 5) (.string ⟨x.toArray⟩) (.int .i64 (k : Int)))
   obtain ⟨q0, q1, q2⟩ := nxW_cells HR2.out (.int .i64 5) (.string ⟨x.toArray⟩) (.int .i64 (k : Int))
   have HBF := Hi (nxW_below HB.out (.int .i64 5) (.string ⟨x.toArray⟩) (.int .i64 (k : Int)))
   clear a0 a1 a2 b0 b1 b2 fa0 fa1 fa2 fb0 fb1 hcv
   generalize nxW w2 w.heap.size (.int .i64 5) (.string ⟨x.toArray⟩) (.int .i64 (k : Int)) = w9 at *
   refine bodyPost_ret (v := .tuple #[.agg #[.int .i64 5, .string ⟨x.toArray⟩, .int .i64 (k : Int)], .int .i64 ((k : Int) + (n : Int)), .bool true]) (by simp [results, Tryz.results95, go_sem, q0, q1, q2]) rfl ⟨HBF.out, .inl ⟨x, n, rfl, rfl⟩⟩
 · have hon : o = none := by
    cases o with
    | none => rfl
    | some t => cases hoe
   subst hon
   have hcv := run_convert_bytes_zero (w2.setCell ⟨w.heap.size + 1, 0, none⟩ (.int .i64 5)) 24 5 Tryz.underlying24 Tryz.underlying5 none 0 9 Tryz.underlying9
   clear hb2 hoe
   go_wp2_with fail
   change bodyPost _ _ _ _ _ (nxW w2 w.heap.size (.int .i64 5) (.string ⟨#[]⟩) (.int .i64 (k : Int)))
   obtain ⟨q0, q1, q2⟩ := nxW_cells HR2.out (.int .i64 5) (.string ⟨#[]⟩) (.int .i64 (k : Int))
   have HBF := Hi (nxW_below HB.out (.int .i64 5) (.string ⟨#[]⟩) (.int .i64 (k : Int)))
   clear a0 a1 a2 b0 b1 b2 fa0 fa1 fa2 fb0 fb1 hcv
   generalize nxW w2 w.heap.size (.int .i64 5) (.string ⟨#[]⟩) (.int .i64 (k : Int)) = w9 at *
   refine bodyPost_ret (v := .tuple #[.agg #[.int .i64 5, .string ⟨#[]⟩, .int .i64 (k : Int)], .int .i64 0, .bool false]) (by simp [results, Tryz.results95, go_sem, q0, q1, q2]) rfl ⟨HBF.out, .inr ⟨rfl, _, _, _, rfl⟩⟩
theorem next_L (A : Option Addr) (c k : Nat) (l : List UInt8) (o : Option (List UInt8 × Nat)) (hk : k < l.length) (hn : l.length ≤ 1000000) (w : World) (hA : ByAt w.heap.size w A c l) (hy : l[k]? = some 123)
 (ho : scanL l (k : Int) = o.map fun t => (t.1, k + t.2)) :
 Calls Tryz.prog 95 #[.slice A l.length c, .int .i64 (k : Int)] w fun e w' => Below w.heap.size w w' ∧ NsPost 6 k o e := by
 have d0 : ((k : Int) == (l.length : Int)) = false := by simp; omega
 obtain ⟨b, off, rfl, hb, hc⟩ := at_byte hA hy
 have hc : w.cell? ⟨b, off + k, none⟩ = some (.int .u8 123) := hc
 have B2 := ZY (YB w (.cells #[.int .i64 0, .string ⟨#[]⟩, .int .i64 0] 136)) (.cells #[.int .i64 0, .string ⟨#[]⟩, .int .i64 (k : Int)] 136)
 have S := refScanLiteral_any _ c (some ⟨b, off, none⟩) l (k : Int) (by omega) (by omega) hn _ (hA.grow B2)
 rw [ho] at S
 have r0 : ((w.alloc (.cells #[.int .i64 0, .string ⟨#[]⟩, .int .i64 0] 136)).alloc (.cells #[.int .i64 0, .string ⟨#[]⟩, .int .i64 (k : Int)] 136)).heap[w.heap.size]? = some (.cells #[.int .i64 0, .string ⟨#[]⟩, .int .i64 0] 136 (0, 0)) := ((YB _ _).block _ (by simp)).trans (YD w _)
 have t0 : ((w.alloc (.cells #[.int .i64 0, .string ⟨#[]⟩, .int .i64 0] 136)).alloc (.cells #[.int .i64 0, .string ⟨#[]⟩, .int .i64 (k : Int)] 136)).heap[w.heap.size + 1]? = some (.cells #[.int .i64 0, .string ⟨#[]⟩, .int .i64 (k : Int)] 136 (0, 0)) := by
  have := YD (w.alloc (.cells #[.int .i64 0, .string ⟨#[]⟩, .int .i64 0] 136)) (.cells #[.int .i64 0, .string ⟨#[]⟩, .int .i64 (k : Int)] 136)
  rwa [World.size_alloc] at this
 have S := Hi S
 have HB2 := Hi B2
 have HR0 := Hi r0
 have HT0 := Hi t0
 clear ho hA B2 r0 t0 hy
 go_enter Tryz.func95, Tryz.ntmps95
 go_wp2_with fail
 refine S.out.mono ?_
 rintro e w2 ⟨hp, hb2⟩
 have r2 := (hb2.block _ (by simp; omega)).trans HR0.out
 have t2 := (hb2.block _ (by simp)).trans HT0.out
 have HB := Hi (YA HB2.out hb2)
 have a0 := cell_of_row _ _ 0 _ _ _ r2
 have a1 := cell_of_row _ _ 1 _ _ _ r2
 have a2 := cell_of_row _ _ 2 _ _ _ r2
 have b0 := cell_of_row _ _ 0 _ _ _ t2
 have b1 := cell_of_row _ _ 1 _ _ _ t2
 have b2 := cell_of_row _ _ 2 _ _ _ t2
 have fa0 := Joins.unfrozen_of_block r2 0
 have fa1 := Joins.unfrozen_of_block r2 1
 have fa2 := Joins.unfrozen_of_block r2 2
 have fb0 := Joins.unfrozen_of_block t2 0
 have fb1 := Joins.unfrozen_of_block t2 1
 have HT2 := Hi t2
 have HR2 := Hi r2
 clear r2 t2 S
 rcases hp with ⟨P, m, A', c', hoe, rfl, hby⟩ | ⟨hoe, rfl⟩
 · obtain ⟨t, rfl, he⟩ := Option.map_eq_some_iff.1 hoe
   obtain ⟨x, n⟩ := t
   simp only [Prod.mk.injEq] at he
   obtain ⟨rfl, rfl⟩ := he
   have hcv := conv_far hby HT2.out (.int .i64 6)
   clear hby hb2 hoe
   go_wp2_with fail
   change bodyPost _ _ _ _ _ (nxW w2 w.heap.size (.int .i64 6) (.string ⟨x.toArray⟩) (.int .i64 (k : Int)))
   obtain ⟨q0, q1, q2⟩ := nxW_cells HR2.out (.int .i64 6) (.string ⟨x.toArray⟩) (.int .i64 (k : Int))
   have HBF := Hi (nxW_below HB.out (.int .i64 6) (.string ⟨x.toArray⟩) (.int .i64 (k : Int)))
   clear a0 a1 a2 b0 b1 b2 fa0 fa1 fa2 fb0 fb1 hcv
   generalize nxW w2 w.heap.size (.int .i64 6) (.string ⟨x.toArray⟩) (.int .i64 (k : Int)) = w9 at *
   refine bodyPost_ret (v := .tuple #[.agg #[.int .i64 6, .string ⟨x.toArray⟩, .int .i64 (k : Int)], .int .i64 ((k : Int) + (n : Int)), .bool true]) (by simp [results, Tryz.results95, go_sem, q0, q1, q2]) rfl ⟨HBF.out, .inl ⟨x, n, rfl, rfl⟩⟩
 · have hon : o = none := by
    cases o with
    | none => rfl
    | some t => cases hoe
   subst hon
   have hcv := run_convert_bytes_zero (w2.setCell ⟨w.heap.size + 1, 0, none⟩ (.int .i64 6)) 24 5 Tryz.underlying24 Tryz.underlying5 none 0 9 Tryz.underlying9
   clear hb2 hoe
   go_wp2_with fail
   change bodyPost _ _ _ _ _ (nxW w2 w.heap.size (.int .i64 6) (.string ⟨#[]⟩) (.int .i64 (k : Int)))
   obtain ⟨q0, q1, q2⟩ := nxW_cells HR2.out (.int .i64 6) (.string ⟨#[]⟩) (.int .i64 (k : Int))
   have HBF := Hi (nxW_below HB.out (.int .i64 6) (.string ⟨#[]⟩) (.int .i64 (k : Int)))
   clear a0 a1 a2 b0 b1 b2 fa0 fa1 fa2 fb0 fb1 hcv
   generalize nxW w2 w.heap.size (.int .i64 6) (.string ⟨#[]⟩) (.int .i64 (k : Int)) = w9 at *
   refine bodyPost_ret (v := .tuple #[.agg #[.int .i64 6, .string ⟨#[]⟩, .int .i64 (k : Int)], .int .i64 0, .bool false]) (by simp [results, Tryz.results95, go_sem, q0, q1, q2]) rfl ⟨HBF.out, .inr ⟨rfl, _, _, _, rfl⟩⟩
theorem next_word (A : Option Addr) (c k : Nat) (l : List UInt8) (y : UInt8) (hy : l[k]? = some y) (hkd : ZD y.toNat = 4 ∨ ZD y.toNat = 0) (hn : l.length ≤ 1000000) (w : World) (hA : ByAt w.heap.size w A c l) :
 Calls Tryz.prog 95 #[.slice A l.length c, .int .i64 (k : Int)] w fun e w' => Below w.heap.size w w' ∧
  e = .returned (.tuple #[.agg #[.int .i64 4, .string ⟨(wordR (l.drop k)).toArray⟩, .int .i64 (k : Int)], .int .i64 ((k + (wordR (l.drop k)).length : Nat) : Int), .bool (decide (0 < (wordR (l.drop k)).length))]) := by
 have hk := (List.getElem?_eq_some_iff.1 hy).1
 have d0 : ((k : Int) == (l.length : Int)) = false := by simp; omega
 obtain ⟨b, off, rfl, hb, hc⟩ := at_byte hA hy
 have hne : y.toNat ≠ 32 ∧ y.toNat ≠ 40 ∧ y.toNat ≠ 41 ∧ y.toNat ≠ 34 ∧ y.toNat ≠ 123 := by
  unfold ZD at hkd
  refine ⟨?_, ?_, ?_, ?_, ?_⟩ <;> intro e <;> rw [e] at hkd <;> simp at hkd
 have s1 : ((y.toNat : Int) == 32) = false := by simp; omega
 have s2 : ((y.toNat : Int) == 40) = false := by simp; omega
 have s3 : ((y.toNat : Int) == 41) = false := by simp; omega
 have s4 : ((y.toNat : Int) == 34) = false := by simp; omega
 have s5 : ((y.toNat : Int) == 123) = false := by simp; omega
 clear hne hkd hy
 have hle := hA.le
 have WB := Hi (fun (z : UInt8) (t : Bool) (hz : wordC z = t) W => wordByte_any z.toNat W (by have := z.toNat_lt; omega) t (by rw [← hz]; rfl))
 have HA := Hi hA
 have hse := fun x lo hi mx W => YY x lo hi mx W
 obtain ⟨q, hq⟩ : ∃ q, wordR (l.drop k) = q := ⟨_, rfl⟩
 rw [hq]
 have HQ := Hi hq
 clear hq hA
 generalize y.toNat = yn at *
 go_enter Tryz.func95, Tryz.ntmps95
 go_wp2_with fail
 go_loop [14] (fun i => ∃ p : Nat, k ≤ p ∧ p ≤ l.length ∧ i = .int .i64 (p : Int) ∧ Hid (((l.drop k).take (p - k)).all wordC = true)) (fun i => l.length - (intOf i).toNat)
 case atStart => exact ⟨k, Nat.le_refl _, by omega, rfl, by rw [Nat.sub_self]; rfl⟩
 case round =>
  obtain ⟨p, hkp, hpl, rfl, hD⟩ := hrel
  have fin : (∀ h : p < l.length, wordC l[p] = false) → Hid (q.length = p - k) ∧ Hid ((convert 24 9 (.slice (offA (some ⟨b, off, none⟩) c k) (p - k) (c - k))).run Tryz.prog ((w.alloc (.cells #[.int .i64 0, .string ⟨#[]⟩, .int .i64 0] 136)).alloc (.cells #[.int .i64 4, .string ⟨#[]⟩, .int .i64 (k : Int)] 136)) = .ok (.string ⟨q.toArray⟩) ((w.alloc (.cells #[.int .i64 0, .string ⟨#[]⟩, .int .i64 0] 136)).alloc (.cells #[.int .i64 4, .string ⟨#[]⟩, .int .i64 (k : Int)] 136))) := fun hend => by
   have hqe : q = (l.drop k).take (p - k) := by
    rw [← HQ.out]
    refine takeWhile_at (l.drop k) (p - k) (by rw [List.length_drop]; omega) hD.out (fun h => ?_)
    rw [List.length_drop] at h
    rw [List.getElem_drop]
    have := hend (by omega)
    simpa [show k + (p - k) = p by omega] using this
   have hql : q.length = p - k := by rw [hqe, List.length_take, List.length_drop]; omega
   have hT := HA.out.cut (lo := k) (hi := p) hkp hpl
   rw [List.drop_take, ← hqe] at hT
   exact ⟨hql, convS _ _ _ (c - k) (p - k) q (hT.grow (ZY (YB _ _) _)) hql⟩
  have fin := Hi fin
  have hsl := fun W => slice_lh (some ⟨b, off, none⟩) l.length c k p hkp (by omega) W
  by_cases hlt : p < l.length
  · obtain ⟨b', off', he, hb', _, hc'⟩ := HA.out.cell hlt
    injection he with he
    injection he with he1 he2
    subst he1 he2
    have d1 : decide ((p : Int) < (l.length : Int)) = true := by simp; omega
    cases hw : wordC l[p] with
    | true =>
      have HN := Hi (dig_all_snoc_w hlt hkp hD.out hw)
      have W := Hi (fun W => WB.out l[p] true hw W)
      clear hw fin
      generalize l[p].toNat = x at *
      go_wp2_with fail
      refine (W.out _).mono ?_
      rintro e w1 ⟨rfl, rfl⟩
      go_wp2_with fail
      go_round
      case rel => exact ⟨p + 1, by omega, by omega, by go_num, HN⟩
      case measure => simp [intOf]; omega
    | false =>
      have W := Hi (fun W => WB.out l[p] false hw W)
      obtain ⟨hq1, hcv⟩ := fin.out (fun _ => hw)
      have hcv := hcv.out
      have R := Hi (show decide ((k : Int) < (p : Int)) = decide (0 < q.length) by rw [decide_eq_decide, hq1.out]; omega)
      have R2 := Hi (show (k : Int) + (q.length : Int) = (p : Int) by rw [hq1.out]; omega)
      clear hw fin
      generalize l[p].toNat = x at *
      go_wp2_with fail
      refine (W.out _).mono ?_
      rintro e w1 ⟨rfl, rfl⟩
      go_wp2_with fail
      refine bodyPost_ret (v := .tuple #[.agg #[.int .i64 4, .string ⟨q.toArray⟩, .int .i64 (k : Int)], .int .i64 (p : Int), .bool (decide ((k : Int) < (p : Int)))]) (by simp [results, Tryz.results95, go_sem]) rfl ⟨ZY (YB _ _) _, by rw [R.out]; first | rw [R2.out] | rw [Int.natCast_add, R2.out]⟩
  · have d1 : decide ((p : Int) < (l.length : Int)) = false := by simp; omega
    obtain ⟨hq1, hcv⟩ := fin.out (fun h => absurd h hlt)
    have hcv := hcv.out
    have R := Hi (show decide ((k : Int) < (p : Int)) = decide (0 < q.length) by rw [decide_eq_decide, hq1.out]; omega)
    have R2 := Hi (show (k : Int) + (q.length : Int) = (p : Int) by rw [hq1.out]; omega)
    clear fin
    go_wp2_with fail
    refine bodyPost_ret (v := .tuple #[.agg #[.int .i64 4, .string ⟨q.toArray⟩, .int .i64 (k : Int)], .int .i64 (p : Int), .bool (decide ((k : Int) < (p : Int)))]) (by simp [results, Tryz.results95, go_sem]) rfl ⟨ZY (YB _ _) _, by rw [R.out]; first | rw [R2.out] | rw [Int.natCast_add, R2.out]⟩
theorem kind_is {n m : Nat} (h : ZD n = m) : (m = 1 → n = 32) ∧ (m = 2 → n = 40) ∧ (m = 3 → n = 41) := by
 unfold ZD at h
 refine ⟨?_, ?_, ?_⟩ <;> intro e <;> subst e <;> (repeat' split at h) <;> omega
theorem ntoken_any (B c k : Nat) (A : Option Addr) (l : List UInt8) (hk : k ≤ l.length) (hl : l.length ≤ 1000000) (w : World) (hA0 : ByAt B w A c l) :
 Calls Tryz.prog 95 #[.slice A l.length c, .int .i64 (k : Int)] w (NtPost l k w) := by
 have hA := hA0.here
 by_cases hke : k = l.length
 · subst hke
   exact (next_end A c l.length w).mono fun e w' ⟨h1, h2⟩ => ⟨h2, .inl ⟨rfl, h1⟩⟩
 · have hlt : k < l.length := by omega
   have hy := List.getElem?_eq_getElem hlt
   generalize l[k] = y at hy
   have hy0 : (l.drop k)[0]? = some y := by rw [drop_at]; exact hy
   have hle := kindN_le y.toNat
   obtain ⟨b, off, hAe, hb, hc⟩ := at_byte hA hy
   have one : ∀ kd : Nat, ZD y.toNat = kd → (kd = 1 ∨ kd = 2 ∨ kd = 3) → oneR (l.drop k) = some (kd, [], 1) := fun kd h h2 => by
    rw [oneR_rest hy0 (by omega), restO_mark hy0 (by omega), h]
    rfl
   by_cases h1 : ZD y.toNat = 1
   · have e := (kind_is h1).1 rfl
     rw [e] at hc
     subst hAe
     exact (next_sp b off c l.length k hlt hl w hc hb).mono fun e w' ⟨h2, h3⟩ => ⟨h3, .inr (.inl ⟨1, [], 1, one 1 h1 (by omega), h2⟩)⟩
   by_cases h2 : ZD y.toNat = 2
   · have e := (kind_is h2).2.1 rfl
     rw [e] at hc
     subst hAe
     exact (next_op b off c l.length k hlt hl w hc hb).mono fun e w' ⟨h3, h4⟩ => ⟨h4, .inr (.inl ⟨2, [], 1, one 2 h2 (by omega), h3⟩)⟩
   by_cases h3 : ZD y.toNat = 3
   · have e := (kind_is h3).2.2 rfl
     rw [e] at hc
     subst hAe
     exact (next_cl b off c l.length k hlt hl w hc hb).mono fun e w' ⟨h4, h5⟩ => ⟨h5, .inr (.inl ⟨3, [], 1, one 3 h3 (by omega), h4⟩)⟩
   by_cases h5 : ZD y.toNat = 5
   · have hy34 := kind5 h5
     have hor := oneR_rest hy0 (by omega)
     rw [h5] at hor
     refine (next_Q A c k l (restO (l.drop k)) hlt hl w hA (by rw [hy, hy34]) (scanQ_rest hy h5)).mono fun e w' ⟨h6, h7⟩ => ⟨h6, ?_⟩
     rcases h7 with ⟨x, n, ho, he⟩ | ⟨ho, he⟩
     · exact .inr (.inl ⟨5, x, n, by rw [hor, ho]; rfl, he⟩)
     · exact .inr (.inr ⟨hlt, by rw [hor, ho]; rfl, he⟩)
   by_cases h6 : ZD y.toNat = 6
   · have hy123 := kind6 h6
     have hor := oneR_rest hy0 (by omega)
     rw [h6] at hor
     refine (next_L A c k l (restO (l.drop k)) hlt hl w hA (by rw [hy, hy123]) (scanL_rest hy h6)).mono fun e w' ⟨h7, h8⟩ => ⟨h7, ?_⟩
     rcases h8 with ⟨x, n, ho, he⟩ | ⟨ho, he⟩
     · exact .inr (.inl ⟨6, x, n, by rw [hor, ho]; rfl, he⟩)
     · exact .inr (.inr ⟨hlt, by rw [hor, ho]; rfl, he⟩)
   have h40 : ZD y.toNat = 4 ∨ ZD y.toNat = 0 := by omega
   refine (next_word A c k l y hy h40 hl w hA).mono fun e w' ⟨h7, h8⟩ => ⟨h7, ?_⟩
   rcases h40 with h4 | h0
   · have hp := word_pos hy0 h4
     rw [decide_eq_true hp] at h8
     exact .inr (.inl ⟨4, _, _, by rw [oneR_rest hy0 (by omega), restO_word hy0 h4, h4]; rfl, h8⟩)
   · have hw : ¬ 0 < (wordR (l.drop k)).length := by
      have : wordR (l.drop k) = [] := by
       unfold wordR
       cases hd : l.drop k with
       | nil => rfl
       | cons z r =>
         rw [hd] at hy0
         obtain rfl : z = y := by simpa using hy0
         rw [List.takeWhile_cons, if_neg (fun e => by have := kindN_word.2 e; omega)]
      rw [this]
      simp
     rw [decide_eq_false hw] at h8
     exact .inr (.inr ⟨hlt, oneR_none hy0 h0, _, _, _, h8⟩)
theorem tok_kind {wr w1 w9 : World} {base : Nat} {v : Value} {n : Nat} {xs : List Value} {e : TypeId} {u0 u1 u2 : Value} {T : TypeId} {O : Obj} (hO : wr.ownsRow base e 3 v n xs) (hs : wr.heap.size ≤ w1.heap.size) (hg : ((w1.alloc (.cells #[u0, u1, u2] T)).alloc O).grownBy w9 v.ownBlock) : w9.cell? ⟨w1.heap.size, 0, none⟩ = some u0 := by
 have h1 : ((w1.alloc (.cells #[u0, u1, u2] T)).alloc O).heap[w1.heap.size]? = some (.cells #[u0, u1, u2] T (0, 0)) := ((YB _ O).block _ (by simp)).trans (YD w1 _)
 exact cell_of_row _ _ 0 _ _ _ ((hg.block _ (by simp; omega) (fun e => by have := (hO.lt _ e.symm).2; omega)).trans h1)
theorem slAt_oneA (w : World) (O : Obj) (k a : Nat) (x : List UInt8) (T : TypeId) : SlAt encT 3 ((w.alloc O).alloc (.cells #[.int .i64 (k : Int), .string ⟨x.toArray⟩, .int .i64 (a : Int)] T)) (some ⟨w.heap.size + 1, 0, none⟩) [⟨k, x, a⟩] := by
 have h := slAt_oneT (w.alloc O) k a x T
 rw [World.size_alloc] at h
 exact h
theorem refTokens_any (B c : Nat) (A : Option Addr) (l : List UInt8) (hl : l.length ≤ 100000) (w : World) (hA : ByAt B w A c l) :
 Calls Tryz.prog 63 #[.slice A l.length c] w (TkPost 136 l w) := by
 obtain ⟨i0, hi, hz0, hz1, hz2⟩ := info_parts infoRT
 have HA := Hi hA.here
 have NX := Hi (fun (k : Nat) (hk : k ≤ l.length) W (hW : Below w.heap.size w W) => ntoken_any w.heap.size c k A l hk (by omega) W (hA.here.below hW))
 clear hA
 go_enter Tryz.func63, Tryz.ntmps63
 go_wp2_with fail
 go_loopw [4, 5] (fun v i wr => ∃ (k : Nat) (ts : List Tok), k ≤ l.length ∧ i = .int .i64 (k : Int) ∧ Hid (TRun l 0 ts k) ∧ Hid (wr.ownsRow w.heap.size 136 3 v ts.length (YF encT ts)) ∧ Hid (Below w.heap.size w wr)) (fun _ i _ => l.length - (intOf i).toNat)
 case atStart => exact ⟨0, [], Nat.zero_le _, rfl, .nil _, World.ownsRow_nil _ _ _ _, Below.refl _ _⟩
 case round =>
  obtain ⟨k, ts, hkl, rfl, hT, hO, hB⟩ := hrel
  have htl := (hT.out.le (Nat.zero_le _)).2
  have N := Hi (NX.out k hkl _ hB.out)
  have hBz := hB.out.size
  go_wp2_with fail
  refine N.out.mono ?_
  rintro e w1 ⟨hb, ⟨hke, rfl⟩ | ⟨kd, X, n, hone, rfl⟩ | ⟨hlt, hone, a, s, m, rfl⟩⟩
  · subst hke
    have hb2 := YA hb (ZY (YB w1 (.cells #[.int .i64 0, .string ⟨#[]⟩, .int .i64 (l.length : Int)] 136)) (.cells #[.int .i64 0, .string ⟨#[]⟩, .int .i64 (l.length : Int)] 136))
    have HO2 := Hi (ZP hO.out hb2)
    have HB2 := Hi (hB.out.trans (hb2.mono hBz))
    have hz := HB2.out.size
    have HC := Hi (fun w9 (hg : ((w1.alloc (.cells #[.int .i64 0, .string ⟨#[]⟩, .int .i64 (l.length : Int)] 136)).alloc (.cells #[.int .i64 0, .string ⟨#[]⟩, .int .i64 (l.length : Int)] 136)).grownBy w9 _) => tok_kind (O := .cells #[.int .i64 0, .string ⟨#[]⟩, .int .i64 (l.length : Int)] 136) hO.out hb.size hg)
    clear hb hb2 N NX
    go_wp2_with (at_builtin; refine YL _ rfl (.tmp 19) (.tmp 21) 94 rfl w.heap.size 136 i0 _ 32 Tryz.underlying94 hi hz0 hz1 hz2 rfl (by decide) _ ts.length (YF encT ts) rfl HO2.out _ [⟨0, [], l.length⟩] 1 rfl encT_len (slAt_oneA _ _ 0 l.length [] _) (one_flatT _) (by simp only [List.length_singleton, maxLen]; omega) (by simp only [List.length_singleton]; omega) hz ?_; intro v9 w9 hv9 hg9; have R4 := Hi (tk_snoc hv9); have R3 := Hi (HB2.out.grown hg9 hz (fun j hj => (hO.out.lt j hj).1)); have kc := HC.out w9 hg9; clear hv9 hg9)
    refine bodyPost_ret (v := .tuple #[v9, .int .i64 (-1)]) (by simp [results, Tryz.results63, go_sem]) rfl ?_
    exact ⟨_, _, _, rfl, R4.out, .inl ⟨ts, hT.out, rfl, rfl⟩, R3.out⟩
  · obtain ⟨p1, p2, p3, p4, _⟩ := oneR_pos hone
    rw [List.length_drop] at p2
    have HT2 := Hi (hT.out.snoc hone)
    have hkd : ((kd : Int) == 0) = false := by simp; omega
    have hb2 := YA hb (ZY (YB w1 (.cells #[.int .i64 (kd : Int), .string ⟨X.toArray⟩, .int .i64 (k : Int)] 136)) (.cells #[.int .i64 (kd : Int), .string ⟨X.toArray⟩, .int .i64 (k : Int)] 136))
    have HO2 := Hi (ZP hO.out hb2)
    have HB2 := Hi (hB.out.trans (hb2.mono hBz))
    have hz := HB2.out.size
    have HC := Hi (fun w9 (hg : ((w1.alloc (.cells #[.int .i64 (kd : Int), .string ⟨X.toArray⟩, .int .i64 (k : Int)] 136)).alloc (.cells #[.int .i64 (kd : Int), .string ⟨X.toArray⟩, .int .i64 (k : Int)] 136)).grownBy w9 _) => tok_kind (O := .cells #[.int .i64 (kd : Int), .string ⟨X.toArray⟩, .int .i64 (k : Int)] 136) hO.out hb.size hg)
    clear hb hb2 N NX hone
    go_wp2_with (at_builtin; refine YL _ rfl (.tmp 19) (.tmp 21) 94 rfl w.heap.size 136 i0 _ 32 Tryz.underlying94 hi hz0 hz1 hz2 rfl (by decide) _ ts.length (YF encT ts) rfl HO2.out _ [⟨kd, X, k⟩] 1 rfl encT_len (slAt_oneA _ _ _ _ _ _) (one_flatT _) (by simp only [List.length_singleton, maxLen]; omega) (by simp only [List.length_singleton]; omega) hz ?_; intro v9 w9 hv9 hg9; have R4 := Hi (tk_snoc hv9); have R3 := Hi (HB2.out.grown hg9 hz (fun j hj => (hO.out.lt j hj).1)); have kc := HC.out w9 hg9; clear hv9 hg9)
    go_roundw
    case rel => exact ⟨k + n, ts ++ [⟨kd, X, k⟩], by omega, by go_num, HT2, R4, R3⟩
    case measure => simp [intOf]; omega
  · have HON := Hi hone
    have HB2 := Hi (YA hb (YB w1 (.cells #[.int .i64 a, .string s, .int .i64 (k : Int)] 136)))
    clear hb N NX hone
    go_wp2_with fail
    refine bodyPost_ret (v := .tuple #[.slice none 0 0, .int .i64 (k : Int)]) (by simp [results, Tryz.results63, go_sem]) rfl ?_
    exact ⟨_, [], _, rfl, World.ownsRow_nil _ _ _ _, .inr ⟨ts, k, hT.out, hlt, HON.out, rfl, rfl⟩, hB.out.trans (HB2.out.mono hBz)⟩
end Go.Proofs.YtpgfnlhfciacoaaGreatDoor
