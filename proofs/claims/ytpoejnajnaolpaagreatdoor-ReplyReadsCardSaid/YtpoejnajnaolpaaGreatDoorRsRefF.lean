/- The reference of layer 9: Form. -/
import Derived.Test.YtpoejnajnaolpaaGreatDoorRsRefI
import Derived.Test.YtpoejnajnaolpaaGreatDoorGj
import Derived.RegionTactic
import Derived.Deep.RegionHeld3
import Derived.Deep.Cut
namespace Go.Proofs.YtpoejnajnaolpaaGreatDoor
open Go.RowKit


set_option maxRecDepth 100000 in
set_option maxHeartbeats 2000000 in
theorem rf1 (r : RI) (A : Option Addr) (k : Nat) (hk : r.kind = 1) (hr : RIok r) (w : World) :
    Calls Tryz.prog 30 #[rsV r A k] w fun e w' => e = .returned (.string ⟨(rsForm r).toArray⟩) ∧ Below w.heap.size w w' := by
  have D := rnum9_any r.n hr.n
  have hz : (ByteArray.mk (Lib.decDigits r.n).toArray).size ≤ 10 := by have := dec_len hr.n; simpa [ByteArray.size] using this
  have HF := Lib.hid (show ByteArray.mk #[42, 32] ++ ByteArray.mk (Lib.decDigits r.n).toArray ++ ByteArray.mk #[32, 69, 88, 73, 83, 84, 83] ++ ByteArray.mk #[13, 10] = ⟨(rsForm r).toArray⟩ by
    have e : rsForm r = [42, 32] ++ Lib.decDigits r.n ++ [32, 69, 88, 73, 83, 84, 83] ++ [13, 10] := by unfold rsForm rsLine rsWord; simp [hk]
    rw [e, ← cat9, ← cat9, ← cat9])
  generalize ByteArray.mk (Lib.decDigits r.n).toArray = d at *
  have D := Lib.hid D
  unfold rsV
  rw [← HF.out, hk]
  clear hk hr HF
  go_enter Tryz.func30, Tryz.ntmps30
  go_wp2_with fail
  refine (D.out _).mono ?_
  rintro e w1 ⟨rfl, rfl⟩
  go_wp2_with fail
  go_ret
  exact ⟨rfl, below_al _ _⟩

set_option maxRecDepth 100000 in
set_option maxHeartbeats 2000000 in
theorem rf2 (r : RI) (A : Option Addr) (k : Nat) (hk : r.kind = 2) (hr : RIok r) (w : World) :
    Calls Tryz.prog 30 #[rsV r A k] w fun e w' => e = .returned (.string ⟨(rsForm r).toArray⟩) ∧ Below w.heap.size w w' := by
  have D := rnum9_any r.n hr.n
  have hz : (ByteArray.mk (Lib.decDigits r.n).toArray).size ≤ 10 := by have := dec_len hr.n; simpa [ByteArray.size] using this
  have HF := Lib.hid (show ByteArray.mk #[42, 32] ++ ByteArray.mk (Lib.decDigits r.n).toArray ++ ByteArray.mk #[32, 82, 69, 67, 69, 78, 84] ++ ByteArray.mk #[13, 10] = ⟨(rsForm r).toArray⟩ by
    have e : rsForm r = [42, 32] ++ Lib.decDigits r.n ++ [32, 82, 69, 67, 69, 78, 84] ++ [13, 10] := by unfold rsForm rsLine rsWord; simp [hk]
    rw [e, ← cat9, ← cat9, ← cat9])
  generalize ByteArray.mk (Lib.decDigits r.n).toArray = d at *
  have D := Lib.hid D
  unfold rsV
  rw [← HF.out, hk]
  clear hk hr HF
  go_enter Tryz.func30, Tryz.ntmps30
  go_wp2_with fail
  refine (D.out _).mono ?_
  rintro e w1 ⟨rfl, rfl⟩
  go_wp2_with fail
  go_ret
  exact ⟨rfl, below_al _ _⟩

set_option maxRecDepth 100000 in
set_option maxHeartbeats 2000000 in
theorem rf3 (r : RI) (A : Option Addr) (k : Nat) (hk : r.kind = 3) (hr : RIok r) (w : World) :
    Calls Tryz.prog 30 #[rsV r A k] w fun e w' => e = .returned (.string ⟨(rsForm r).toArray⟩) ∧ Below w.heap.size w w' := by
  have D := rnum9_any r.n hr.n
  have hz : (ByteArray.mk (Lib.decDigits r.n).toArray).size ≤ 10 := by have := dec_len hr.n; simpa [ByteArray.size] using this
  have HF := Lib.hid (show ByteArray.mk #[42, 32] ++ ByteArray.mk (Lib.decDigits r.n).toArray ++ ByteArray.mk #[32, 69, 88, 80, 85, 78, 71, 69] ++ ByteArray.mk #[13, 10] = ⟨(rsForm r).toArray⟩ by
    have e : rsForm r = [42, 32] ++ Lib.decDigits r.n ++ [32, 69, 88, 80, 85, 78, 71, 69] ++ [13, 10] := by unfold rsForm rsLine rsWord; simp [hk]
    rw [e, ← cat9, ← cat9, ← cat9])
  generalize ByteArray.mk (Lib.decDigits r.n).toArray = d at *
  have D := Lib.hid D
  unfold rsV
  rw [← HF.out, hk]
  clear hk hr HF
  go_enter Tryz.func30, Tryz.ntmps30
  go_wp2_with fail
  refine (D.out _).mono ?_
  rintro e w1 ⟨rfl, rfl⟩
  go_wp2_with fail
  go_ret
  exact ⟨rfl, below_al _ _⟩

set_option maxRecDepth 100000 in
set_option maxHeartbeats 2000000 in
theorem rf5 (r : RI) (A : Option Addr) (k : Nat) (hk : r.kind = 5)  (w : World) :
    Calls Tryz.prog 30 #[rsV r A k] w fun e w' => e = .returned (.string ⟨(rsForm r).toArray⟩) ∧ Below w.heap.size w w' := by
  have D := fun W => refList8_any 31 (by decide) W
  have hz : (ByteArray.mk (listL 31).toArray).size ≤ 3000 := by decide
  have HF := Lib.hid (show ByteArray.mk #[42, 32, 70, 76, 65, 71, 83, 32] ++ ByteArray.mk (listL 31).toArray ++ ByteArray.mk #[13, 10] = ⟨(rsForm r).toArray⟩ by
    have e : rsForm r = [42, 32, 70, 76, 65, 71, 83, 32] ++ listL 31 ++ [13, 10] := by unfold rsForm rsLine; simp [hk]
    rw [e, ← cat9, ← cat9])
  generalize ByteArray.mk (listL 31).toArray = d at *
  have D := Lib.hid D
  unfold rsV
  rw [← HF.out, hk]
  clear hk HF
  go_enter Tryz.func30, Tryz.ntmps30
  go_wp2_with fail
  refine (D.out _).mono ?_
  rintro e w1 ⟨rfl, rfl⟩
  go_wp2_with fail
  go_ret
  exact ⟨rfl, below_al _ _⟩

set_option maxRecDepth 100000 in
set_option maxHeartbeats 2000000 in
theorem rf6 (r : RI) (A : Option Addr) (k : Nat) (hk : r.kind = 6) (hs : RIsm r) (w : World) :
    Calls Tryz.prog 30 #[rsV r A k] w fun e w' => e = .returned (.string ⟨(rsForm r).toArray⟩) ∧ Below w.heap.size w w' := by
  have hz : (ByteArray.mk r.text.toArray).size ≤ 3000 := by have := hs.text; simpa [ByteArray.size] using this
  have HF := Lib.hid (show ByteArray.mk #[42, 32, 79, 75, 32] ++ ByteArray.mk r.text.toArray ++ ByteArray.mk #[13, 10] = ⟨(rsForm r).toArray⟩ by
    have e : rsForm r = [42, 32, 79, 75, 32] ++ r.text ++ [13, 10] := by unfold rsForm rsLine rsPre; simp [hk]
    rw [e, ← cat9, ← cat9])
  unfold rsV
  rw [← HF.out, hk]
  generalize ByteArray.mk r.text.toArray = d at *
  clear hk hs HF
  go_enter Tryz.func30, Tryz.ntmps30
  go_wp2_with fail
  go_ret
  exact ⟨rfl, below_al _ _⟩

set_option maxRecDepth 100000 in
set_option maxHeartbeats 2000000 in
theorem rf7 (r : RI) (A : Option Addr) (k : Nat) (hk : r.kind = 7) (hs : RIsm r) (w : World) :
    Calls Tryz.prog 30 #[rsV r A k] w fun e w' => e = .returned (.string ⟨(rsForm r).toArray⟩) ∧ Below w.heap.size w w' := by
  have hz : (ByteArray.mk r.text.toArray).size ≤ 3000 := by have := hs.text; simpa [ByteArray.size] using this
  have HF := Lib.hid (show ByteArray.mk #[42, 32, 66, 89, 69, 32] ++ ByteArray.mk r.text.toArray ++ ByteArray.mk #[13, 10] = ⟨(rsForm r).toArray⟩ by
    have e : rsForm r = [42, 32, 66, 89, 69, 32] ++ r.text ++ [13, 10] := by unfold rsForm rsLine rsPre; simp [hk]
    rw [e, ← cat9, ← cat9])
  unfold rsV
  rw [← HF.out, hk]
  generalize ByteArray.mk r.text.toArray = d at *
  clear hk hs HF
  go_enter Tryz.func30, Tryz.ntmps30
  go_wp2_with fail
  go_ret
  exact ⟨rfl, below_al _ _⟩

set_option maxRecDepth 100000 in
set_option maxHeartbeats 2000000 in
theorem rf8 (r : RI) (A : Option Addr) (k : Nat) (hk : r.kind = 8) (hs : RIsm r) (w : World) :
    Calls Tryz.prog 30 #[rsV r A k] w fun e w' => e = .returned (.string ⟨(rsForm r).toArray⟩) ∧ Below w.heap.size w w' := by
  have hz : (ByteArray.mk r.text.toArray).size ≤ 3000 := by have := hs.text; simpa [ByteArray.size] using this
  have HF := Lib.hid (show ByteArray.mk #[42, 32, 66, 65, 68, 32] ++ ByteArray.mk r.text.toArray ++ ByteArray.mk #[13, 10] = ⟨(rsForm r).toArray⟩ by
    have e : rsForm r = [42, 32, 66, 65, 68, 32] ++ r.text ++ [13, 10] := by unfold rsForm rsLine rsPre; simp [hk]
    rw [e, ← cat9, ← cat9])
  unfold rsV
  rw [← HF.out, hk]
  generalize ByteArray.mk r.text.toArray = d at *
  clear hk hs HF
  go_enter Tryz.func30, Tryz.ntmps30
  go_wp2_with fail
  go_ret
  exact ⟨rfl, below_al _ _⟩

set_option maxRecDepth 100000 in
set_option maxHeartbeats 2000000 in
theorem rf10 (r : RI) (A : Option Addr) (k : Nat) (hk : r.kind = 10) (hs : RIsm r) (w : World) :
    Calls Tryz.prog 30 #[rsV r A k] w fun e w' => e = .returned (.string ⟨(rsForm r).toArray⟩) ∧ Below w.heap.size w w' := by
  have hz : (ByteArray.mk r.text.toArray).size ≤ 3000 := by have := hs.text; simpa [ByteArray.size] using this
  have HF := Lib.hid (show ByteArray.mk #[43, 32] ++ ByteArray.mk r.text.toArray ++ ByteArray.mk #[13, 10] = ⟨(rsForm r).toArray⟩ by
    have e : rsForm r = [43, 32] ++ r.text ++ [13, 10] := by unfold rsForm rsLine rsPre; simp [hk]
    rw [e, ← cat9, ← cat9])
  unfold rsV
  rw [← HF.out, hk]
  generalize ByteArray.mk r.text.toArray = d at *
  clear hk hs HF
  go_enter Tryz.func30, Tryz.ntmps30
  go_wp2_with fail
  go_ret
  exact ⟨rfl, below_al _ _⟩

set_option maxRecDepth 100000 in
set_option maxHeartbeats 2000000 in
theorem rf9 (r : RI) (A : Option Addr) (k : Nat) (hk : r.kind = 9) (hs : RIsm r) (h0 : 0 ≤ r.status) (h2 : r.status ≤ 2) (w : World) :
    Calls Tryz.prog 30 #[rsV r A k] w fun e w' => e = .returned (.string ⟨(rsForm r).toArray⟩) ∧ Below w.heap.size w w' := by
  have hz : (ByteArray.mk r.text.toArray).size ≤ 3000 := by have := hs.text; simpa [ByteArray.size] using this
  have hg : (ByteArray.mk r.tag.toArray).size ≤ 3000 := by have := hs.tag; simpa [ByteArray.size] using this
  have HF := Lib.hid (show ByteArray.mk r.tag.toArray ++ ByteArray.mk #[32] ++ ByteArray.mk (rsStat r.status).toArray ++ ByteArray.mk #[32] ++ ByteArray.mk r.text.toArray ++ ByteArray.mk #[13, 10] = ⟨(rsForm r).toArray⟩ by
    have e : rsForm r = r.tag ++ [32] ++ rsStat r.status ++ [32] ++ r.text ++ [13, 10] := by unfold rsForm rsLine; simp [hk]
    rw [e, ← cat9, ← cat9, ← cat9, ← cat9, ← cat9])
  unfold rsV
  rw [← HF.out, hk]
  generalize ByteArray.mk r.text.toArray = d at *
  generalize ByteArray.mk r.tag.toArray = g at *
  clear hk hs HF
  have hc : r.status = 0 ∨ r.status = 1 ∨ r.status = 2 := by omega
  clear h0 h2
  rcases hc with h | h | h
  all_goals
    rw [h]
    go_enter Tryz.func30, Tryz.ntmps30
    go_wp2_with fail
    first | go_region | skip
    all_goals
      go_wp2_with fail
      go_ret
      refine ⟨rfl, ?_⟩
      repeat (first | exact Below.refl _ _ | exact below_al _ _ | refine belDrawN ?_ _ | refine belDraw ?_ | refine belAlloc ?_ _)

set_option maxRecDepth 100000 in
set_option maxHeartbeats 2000000 in
theorem rf4 (r : RI) (A : Option Addr) (k : Nat) (hk : r.kind = 4) (hr : RIok r) (hs : RIsm r) (hne : rsParts r ≠ []) (w : World) (hA : ByAt w.heap.size w A k r.body) :
    Calls Tryz.prog 30 #[rsV r A k] w fun e w' => e = .returned (.string ⟨(rsForm r).toArray⟩) ∧ Below w.heap.size w w' := by
  have B0 := below_al w (.cells #[.int .i64 r.kind, .int .u32 (r.n : Int), .string ⟨r.tag.toArray⟩, .int .i64 r.status, .string ⟨r.text.toArray⟩, .int .i64 r.items, .int .u8 (r.flags : Int), .int .u32 (r.uid : Int), .int .u32 (r.size : Int), .slice A r.body.length k] 27)
  have BX := RsBox.new w r A k
  have IT := fun W (hW : Below w.heap.size w W) => ritems9_any r A k hr hs hne W (hA.below hW).here
  have hz : (ByteArray.mk (Lib.decDigits r.n).toArray).size ≤ 10 := by have := dec_len hr.n; simpa [ByteArray.size] using this
  have hzj : (ByteArray.mk (spL (rsParts r)).toArray).size ≤ 100000 := by
    have h2 := parts_len r hs hr.uid hr.size
    have h3 := spL_len (rsParts r) h2.2
    have h4 : (spL (rsParts r)).length ≤ 100000 := by have := h2.1; omega
    simpa [ByteArray.size] using h4
  have HF := Lib.hid (show ByteArray.mk #[42, 32] ++ ByteArray.mk (Lib.decDigits r.n).toArray ++ ByteArray.mk #[32, 70, 69, 84, 67, 72, 32, 40] ++ ByteArray.mk (spL (rsParts r)).toArray ++ ByteArray.mk #[41] ++ ByteArray.mk #[13, 10] = ⟨(rsForm r).toArray⟩ by
    have e : rsForm r = [42, 32] ++ Lib.decDigits r.n ++ [32, 70, 69, 84, 67, 72, 32, 40] ++ spL (rsParts r) ++ [41] ++ [13, 10] := by unfold rsForm rsLine; simp [hk]
    rw [e, ← cat9, ← cat9, ← cat9, ← cat9, ← cat9])
  have DN := fun W => rnum9_any r.n hr.n W
  obtain ⟨x0, x1, x2, x3, x4, x5, x6, x7, x8, x9⟩ := BX.cells
  have hlt := BX.lt
  unfold rsV at *
  rw [← HF.out]
  generalize ByteArray.mk (Lib.decDigits r.n).toArray = dN at *
  generalize ByteArray.mk (spL (rsParts r)).toArray = dJ at *
  obtain ⟨n, hn⟩ : ∃ n, r.body.length = n := ⟨_, rfl⟩
  simp only [hn, hk] at IT B0 hlt x0 x1 x2 x3 x4 x5 x6 x7 x8 x9 ⊢
  have HN := Lib.hid hn
  have HK := Lib.hid hk
  have HB0 := Lib.hid B0
  clear hn hk BX HF hA hr hs hne B0
  go_enter Tryz.func30, Tryz.ntmps30
  go_upto_region 10 with (fail)
  generalize w.alloc (.cells #[.int .i64 4, .int .u32 (r.n : Int), .string ⟨r.tag.toArray⟩, .int .i64 r.status, .string ⟨r.text.toArray⟩, .int .i64 r.items, .int .u8 (r.flags : Int), .int .u32 (r.uid : Int), .int .u32 (r.size : Int), .slice A n k] 27) = w1 at *
  have D2 := Lib.hid (fun W (hW : Below w1.heap.size w1 W) => (DN W).mono fun e' w' (q : e' = .returned (.string dN) ∧ W = w') => (⟨q.1, q.2 ▸ hW⟩ : e' = .returned (.string dN) ∧ Below w1.heap.size w1 w'))
  have J := Lib.hid (fun W (hW : Below w1.heap.size w1 W) => (IT W (below_next HB0.out hW)).mono fun e' w' (q : e' = .returned (.string dJ) ∧ Below W.heap.size W w') => (⟨q.1, below_next hW q.2⟩ : e' = .returned (.string dJ) ∧ Below w1.heap.size w1 w'))
  have HBW := Lib.hid (show ∀ W, Below w1.heap.size w1 W → W.cell? ⟨w.heap.size, 0, none⟩ = some (.int .i64 4) ∧ W.cell? ⟨w.heap.size, 1, none⟩ = some (.int .u32 (r.n : Int)) ∧ W.cell? ⟨w.heap.size, 2, none⟩ = some (.string ⟨r.tag.toArray⟩) ∧ W.cell? ⟨w.heap.size, 3, none⟩ = some (.int .i64 r.status) ∧ W.cell? ⟨w.heap.size, 4, none⟩ = some (.string ⟨r.text.toArray⟩) ∧ W.cell? ⟨w.heap.size, 5, none⟩ = some (.int .i64 r.items) ∧ W.cell? ⟨w.heap.size, 6, none⟩ = some (.int .u8 (r.flags : Int)) ∧ W.cell? ⟨w.heap.size, 7, none⟩ = some (.int .u32 (r.uid : Int)) ∧ W.cell? ⟨w.heap.size, 8, none⟩ = some (.int .u32 (r.size : Int)) ∧ W.cell? ⟨w.heap.size, 9, none⟩ = some (.slice A n k) ∧ Below w1.heap.size w1 W from fun W hW => ⟨(hW.cell (p := ⟨w.heap.size, 0, none⟩) hlt).trans x0, (hW.cell (p := ⟨w.heap.size, 1, none⟩) hlt).trans x1, (hW.cell (p := ⟨w.heap.size, 2, none⟩) hlt).trans x2, (hW.cell (p := ⟨w.heap.size, 3, none⟩) hlt).trans x3, (hW.cell (p := ⟨w.heap.size, 4, none⟩) hlt).trans x4, (hW.cell (p := ⟨w.heap.size, 5, none⟩) hlt).trans x5, (hW.cell (p := ⟨w.heap.size, 6, none⟩) hlt).trans x6, (hW.cell (p := ⟨w.heap.size, 7, none⟩) hlt).trans x7, (hW.cell (p := ⟨w.heap.size, 8, none⟩) hlt).trans x8, (hW.cell (p := ⟨w.heap.size, 9, none⟩) hlt).trans x9, hW⟩)
  have z1 : (ByteArray.mk #[42, 32] ++ dN).size ≤ 12 := by rw [ByteArray.size_append]; show 2 + dN.size ≤ 12; omega
  have z2 : (ByteArray.mk #[42, 32] ++ dN ++ ByteArray.mk #[32, 70, 69, 84, 67, 72, 32, 40]).size ≤ 20 := by rw [ByteArray.size_append]; show _ + 8 ≤ 20; omega
  have z3 : (ByteArray.mk #[42, 32] ++ dN ++ ByteArray.mk #[32, 70, 69, 84, 67, 72, 32, 40] ++ dJ).size ≤ 100020 := by rw [ByteArray.size_append]; omega
  have z4 : (ByteArray.mk #[42, 32] ++ dN ++ ByteArray.mk #[32, 70, 69, 84, 67, 72, 32, 40] ++ dJ ++ ByteArray.mk #[41]).size ≤ 100021 := by rw [ByteArray.size_append]; show _ + 1 ≤ _; omega
  have s1 : ∀ W, (Op.stringOp BinOp.add (ByteArray.mk #[42, 32]) dN).run Tryz.prog W = .ok (.string (ByteArray.mk #[42, 32] ++ dN)) W := fun W => run_string_add_sum W _ _ (by show 2 + dN.size ≤ _; omega)
  have s2 : ∀ W, (Op.stringOp BinOp.add (ByteArray.mk #[42, 32] ++ dN) (ByteArray.mk #[32, 70, 69, 84, 67, 72, 32, 40])).run Tryz.prog W = .ok (.string (ByteArray.mk #[42, 32] ++ dN ++ ByteArray.mk #[32, 70, 69, 84, 67, 72, 32, 40])) W := fun W => run_string_add_sum W _ _ (by show _ + 8 ≤ _; omega)
  have s3 : ∀ W, (Op.stringOp BinOp.add (ByteArray.mk #[42, 32] ++ dN ++ ByteArray.mk #[32, 70, 69, 84, 67, 72, 32, 40]) dJ).run Tryz.prog W = .ok (.string (ByteArray.mk #[42, 32] ++ dN ++ ByteArray.mk #[32, 70, 69, 84, 67, 72, 32, 40] ++ dJ)) W := fun W => run_string_add_sum W _ _ (by omega)
  have s4 : ∀ W, (Op.stringOp BinOp.add (ByteArray.mk #[42, 32] ++ dN ++ ByteArray.mk #[32, 70, 69, 84, 67, 72, 32, 40] ++ dJ) (ByteArray.mk #[41])).run Tryz.prog W = .ok (.string (ByteArray.mk #[42, 32] ++ dN ++ ByteArray.mk #[32, 70, 69, 84, 67, 72, 32, 40] ++ dJ ++ ByteArray.mk #[41])) W := fun W => run_string_add_sum W _ _ (by show _ + 1 ≤ _; omega)
  clear x0 x1 x2 x3 x4 x5 x6 x7 x8 x9 hlt DN IT z1 z2 z3
  go_region_held3 (fun w' => w'.cell? ⟨w.heap.size, 0, none⟩ = some (.int .i64 4) ∧ w'.cell? ⟨w.heap.size, 1, none⟩ = some (.int .u32 (r.n : Int)) ∧ w'.cell? ⟨w.heap.size, 2, none⟩ = some (.string ⟨r.tag.toArray⟩) ∧ w'.cell? ⟨w.heap.size, 3, none⟩ = some (.int .i64 r.status) ∧ w'.cell? ⟨w.heap.size, 4, none⟩ = some (.string ⟨r.text.toArray⟩) ∧ w'.cell? ⟨w.heap.size, 5, none⟩ = some (.int .i64 r.items) ∧ w'.cell? ⟨w.heap.size, 6, none⟩ = some (.int .u8 (r.flags : Int)) ∧ w'.cell? ⟨w.heap.size, 7, none⟩ = some (.int .u32 (r.uid : Int)) ∧ w'.cell? ⟨w.heap.size, 8, none⟩ = some (.int .u32 (r.size : Int)) ∧ w'.cell? ⟨w.heap.size, 9, none⟩ = some (.slice A n k) ∧ Below w1.heap.size w1 w')
    ((refine HBW.out _ ?_; repeat (first | assumption | exact Below.refl _ _ | refine belDrawN ?_ _ | refine belDraw ?_)))
    (first
      | (go_at_call 45; refine (D2.out _ (by repeat (first | assumption | exact Below.refl _ _ | refine belDrawN ?_ _ | refine belDraw ?_))).mono ?_; rintro e' w5 ⟨rfl, hb5⟩)
      | (go_at_call 46; refine (J.out _ (by repeat (first | assumption | exact Below.refl _ _ | refine belDrawN ?_ _ | refine belDraw ?_))).mono ?_; rintro e' w6 ⟨rfl, hb6⟩))
  all_goals
    rename_i hH
    have HB9 := Lib.hid hH.2.2.2.2.2.2.2.2.2.2
    clear hH
    go_wp2_with fail
    go_ret
    exact ⟨rfl, below_next HB0.out HB9.out⟩

theorem parts_ne {r : RI} (hk : r.kind = 4) (h : rsFit r = true) : rsParts r ≠ [] := by
  unfold rsFit at h
  rw [if_neg (by omega), if_pos hk] at h
  simp only [Bool.and_eq_true, decide_eq_true_eq] at h
  obtain ⟨⟨h1, h2, h3⟩, -⟩ := h
  have key : ∀ n : Fin 32, 1 ≤ n.val → rsBit (n.val : Int) 8 = false → rsBit (n.val : Int) 1 = true ∨ rsBit (n.val : Int) 2 = true ∨ rsBit (n.val : Int) 4 = true ∨ rsBit (n.val : Int) 16 = true := by decide +kernel
  obtain ⟨m, hm⟩ : ∃ m : Nat, r.items = m := ⟨r.items.toNat, by omega⟩
  rw [hm] at h1 h2 h3
  have := key ⟨m, by omega⟩ (by show 1 ≤ m; omega) h3
  unfold rsParts
  rw [hm]
  rcases this with e | e | e | e <;> (replace e : rsBit (m : Int) _ = true := e) <;> simp [e]
theorem rform9_any (r : RI) (hr : RIok r) (hs : RIsm r) (hok : rsOk r = true) (A : Option Addr) (k : Nat) (w : World) (hA : ByAt w.heap.size w A k r.body) :
    Calls Tryz.prog 30 #[rsV r A k] w fun e w' => e = .returned (.string ⟨(rsForm r).toArray⟩) ∧ Below w.heap.size w w' := by
  have hf := ok_fit hok
  have hk : 1 ≤ r.kind ∧ r.kind ≤ 10 := by
    by_cases h : 1 ≤ r.kind ∧ r.kind ≤ 10
    · exact h
    · unfold rsFit at hf
      rw [if_neg (by omega), if_neg (by omega), if_neg (by omega), if_neg (by omega), if_neg (by omega)] at hf
      cases hf
  have hc : r.kind = 1 ∨ r.kind = 2 ∨ r.kind = 3 ∨ r.kind = 4 ∨ r.kind = 5 ∨ r.kind = 6 ∨ r.kind = 7 ∨ r.kind = 8 ∨ r.kind = 9 ∨ r.kind = 10 := by omega
  rcases hc with h | h | h | h | h | h | h | h | h | h
  · exact rf1 r A k h hr w
  · exact rf2 r A k h hr w
  · exact rf3 r A k h hr w
  · exact rf4 r A k h hr hs (parts_ne h hf) w hA
  · exact rf5 r A k h w
  · exact rf6 r A k h hs w
  · exact rf7 r A k h hs w
  · exact rf8 r A k h hs w
  · have hst : 0 ≤ r.status ∧ r.status ≤ 2 := by
      unfold rsFit at hf
      rw [if_neg (by omega), if_neg (by omega), if_neg (by omega), if_pos h] at hf
      simp at hf
      exact hf.2.2
    exact rf9 r A k h hs hst.1 hst.2 w
  · exact rf10 r A k h hs w
end Go.Proofs.YtpoejnajnaolpaaGreatDoor
