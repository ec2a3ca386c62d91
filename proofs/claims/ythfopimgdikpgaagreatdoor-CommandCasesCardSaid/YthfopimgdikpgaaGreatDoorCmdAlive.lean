/- The example of chapter 7: the law's own 'alive'. -/
import Derived.Test.YthfopimgdikpgaaGreatDoorCmdTop2
import Derived.Lib.SlBytesConst
namespace Go.Proofs.YthfopimgdikpgaaGreatDoor
open Go.RowKit

/-- Bytes laid by a literal. -/
theorem byAt_litT (w : World) (l : List UInt8) (C : Array Value) (hC : (l.map fun x => Value.int .u8 (x.toNat : Int)).toArray = C) (t : TypeId) (fr : Nat × Nat) : ByAt (w.heap.size + 1) (w.alloc (.cells C t fr)) (some ⟨w.heap.size, 0, none⟩) l.length l := by
  subst hC
  refine ⟨Nat.le_refl _, .inr ⟨w.heap.size, 0, rfl, by omega, by simp, fun j hj => ?_⟩⟩
  rw [Nat.zero_add, World.cell?_alloc_mark]
  simp [hj]
def ex7 : List UInt8 := [97, 49, 32, 102, 101, 116, 99, 104, 32, 50, 58, 42, 32, 40, 117, 105, 100, 32, 70, 76, 65, 71, 83, 41]
def ex7T : List Tok := [⟨4, [102, 101, 116, 99, 104], 0⟩, ⟨1, [], 5⟩, ⟨4, [50, 58, 42], 6⟩, ⟨1, [], 9⟩, ⟨2, [], 10⟩, ⟨4, [117, 105, 100], 11⟩, ⟨1, [], 14⟩, ⟨4, [70, 76, 65, 71, 83], 15⟩, ⟨3, [], 20⟩]
def ex7C : Cmd := ⟨[97, 49], 7, [], [(2, 0)], 3, 0, false, 0, []⟩
theorem ex7_run : TRun (ex7.drop 3) 0 ex7T 21 :=
  .cons (n := 5) (by decide +kernel) (.cons (n := 1) (by decide +kernel) (.cons (n := 3) (by decide +kernel) (.cons (n := 1) (by decide +kernel) (.cons (n := 1) (by decide +kernel) (.cons (n := 3) (by decide +kernel) (.cons (n := 1) (by decide +kernel) (.cons (n := 5) (by decide +kernel) (.cons (n := 1) (by decide +kernel) (.nil _)))))))))
theorem ex7_toks : IsToks (ex7.drop 3) (ex7T ++ [⟨0, [], 21⟩]) (-1) := .inl ⟨ex7T, ex7_run, rfl, rfl⟩
theorem ex7_tag : tagO ex7 = some [97, 49] := by decide +kernel
theorem ex7_body : bodyO [97, 49] (ex7T ++ [⟨0, [], 21⟩]) = some ex7C := by kernel_rfl
theorem ex7_cmd : IsCmd ex7 ex7C true := .good ex7_tag ex7_toks ex7_body

set_option maxRecDepth 100000 in
set_option maxHeartbeats 4000000 in
theorem alive7_any (w : World) (henv : Env w) :
    Calls Tryz.prog 9 #[] w fun e w' => e = .returned (.bool true) ∧ Below w.heap.size w w' := by
  have kc := fun (w : World) (C : Array Value) (n c : Nat) => Lib.run_convert_bytes_const (P := Tryz.prog) w 22 5 C n c Tryz.underlying22 Tryz.underlying5
  have B0 := below_al w (.cells #[.int .u8 97, .int .u8 49, .int .u8 32, .int .u8 102, .int .u8 101, .int .u8 116, .int .u8 99, .int .u8 104, .int .u8 32, .int .u8 50, .int .u8 58, .int .u8 42, .int .u8 32, .int .u8 40, .int .u8 117, .int .u8 105, .int .u8 100, .int .u8 32, .int .u8 70, .int .u8 76, .int .u8 65, .int .u8 71, .int .u8 83, .int .u8 41] 5 (24, 25))
  have TK : Calls Tryz.prog 10 #[.slice (some ⟨w.heap.size, 0, none⟩) 24 24] _ _ := command_any _ 24 _ ex7 (by decide) _ (henv.below B0) (byAt_litT w ex7 _ rfl 5 (24, 25))
  have TK := Lib.hid TK
  have HB0 := Lib.hid B0
  clear henv B0
  go_enter Tryz.func9, Tryz.ntmps9
  go_wp2_with fail
  refine TK.out.mono ?_
  rintro e w1 ⟨c, b, v, hi, he, ⟨hv, _⟩, hb⟩
  obtain ⟨rfl, rfl⟩ := hi.det ex7_cmd
  obtain ⟨sv, dv, rfl, ⟨A1, k1, rfl, hk1, hs1⟩, A2, k2, rfl, hk2, _⟩ := hv
  have hs1' : SlAt encR 2 w1 A1 [(2, 0)] := hs1
  obtain ⟨g, off, rfl, hg, hc⟩ := hs1'.at_ (j := 0) (by simp)
  have z0 := hc 0 _ rfl
  have z1 := hc 1 _ rfl
  have he : e = .returned (.tuple #[.agg #[.string ⟨#[97, 49]⟩, .int .i64 7, .string ⟨#[]⟩, .slice (some ⟨g, off, none⟩) 1 k1, .int .i64 3, .int .i64 0, .bool false, .int .u8 0, .slice A2 0 k2], .bool true]) := he
  subst he
  have hk : 1 ≤ k1 := hk1
  have HB1 := Lib.hid (below_next HB0.out hb)
  have z0' : w1.cell? ⟨g, off, none⟩ = some (.int .u32 2) := by simpa using z0
  have z1' : w1.cell? ⟨g, off + 1, none⟩ = some (.int .u32 0) := by simpa using z1
  have y0 := fun o => ((below_al w1 o).cell (p := ⟨g, off, none⟩) hg).trans z0'
  have y1 := fun o => ((below_al w1 o).cell (p := ⟨g, off + 1, none⟩) hg).trans z1'
  have HB2 := Lib.hid (fun o => below_next HB1.out (below_al w1 o))
  clear hi hs1 hs1' hc z0 z1 hb TK HB0 hk1 hk2
  go_wp2_with fail
  go_ret
  exact ⟨rfl, HB2.out _⟩
end Go.Proofs.YthfopimgdikpgaaGreatDoor
