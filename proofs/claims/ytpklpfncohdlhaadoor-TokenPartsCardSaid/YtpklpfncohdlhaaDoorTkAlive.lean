/- The example of chapter 6: the law's own 'alive'. -/
import Derived.Test.YtpklpfncohdlhaaDoorTokens
import Derived.Test.YtpklpfncohdlhaaDoorTkTag
import Derived.Lib.SlBytesConst
namespace Go.Proofs.YtpklpfncohdlhaaDoor
open Go.RowKit

/-- Bytes laid by a literal. -/
theorem byAt_litT (w : World) (l : List UInt8) (C : Array Value) (hC : (l.map fun x => Value.int .u8 (x.toNat : Int)).toArray = C) (t : TypeId) (fr : Nat × Nat) : ByAt (w.heap.size + 1) (w.alloc (.cells C t fr)) (some ⟨w.heap.size, 0, none⟩) l.length l := by
  subst hC
  refine ⟨Nat.le_refl _, .inr ⟨w.heap.size, 0, rfl, by omega, by simp, fun j hj => ?_⟩⟩
  rw [Nat.zero_add, World.cell?_alloc_mark]
  simp [hj]
def ex1 : List UInt8 := [97, 32, 70, 69, 84, 67, 72, 32, 49, 32, 40, 85, 73, 68, 41]
def ex2 : List UInt8 := [97, 32, 70, 69, 84, 67, 72, 32, 49]
def ex1T : List Tok := [⟨4, [97], 0⟩, ⟨1, [], 1⟩, ⟨4, [70, 69, 84, 67, 72], 2⟩, ⟨1, [], 7⟩, ⟨4, [49], 8⟩, ⟨1, [], 9⟩, ⟨2, [], 10⟩, ⟨4, [85, 73, 68], 11⟩, ⟨3, [], 14⟩]
theorem ex1_run : TRun ex1 0 ex1T 15 :=
  .cons (n := 1) (by decide +kernel) (.cons (n := 1) (by decide +kernel) (.cons (n := 5) (by decide +kernel) (.cons (n := 1) (by decide +kernel) (.cons (n := 1) (by decide +kernel) (.cons (n := 1) (by decide +kernel) (.cons (n := 1) (by decide +kernel) (.cons (n := 3) (by decide +kernel) (.cons (n := 1) (by decide +kernel) (.nil _)))))))))
theorem ex1_toks : IsToks ex1 (ex1T ++ [⟨0, [], 15⟩]) (-1) := .inl ⟨ex1T, ex1_run, rfl, rfl⟩
theorem ex2_tag : tagV ex2 = .tuple #[.string ⟨#[97]⟩, .int .i64 2, .bool true] := by
  have h : tagO ex2 = some [97] := by decide +kernel
  unfold tagV
  rw [h]
  rfl
/-- What Tokens gives at a command whose tokens are known. -/
theorem toks_is {T : TypeId} {l : List UInt8} {ts : List Tok} {x : Int} {w w' : World} {e : Ending} (h : TkPost T l w e w') (ht : IsToks l ts x) :
    ∃ v, e = .returned (.tuple #[v, .int .i64 x]) ∧ w'.ownsRow w.heap.size T 3 v ts.length (flatL encT ts) ∧ Below w.heap.size w w' := by
  obtain ⟨v, us, y, h1, h2, h3, h4⟩ := h
  obtain ⟨rfl, rfl⟩ := h3.det ht
  exact ⟨v, h1, h2, h4⟩

set_option maxRecDepth 100000 in
set_option maxHeartbeats 4000000 in
theorem alive6_any (w : World) (henv : Env w) :
    Calls Tryd.prog 8 #[] w fun e w' => e = .returned (.bool true) ∧ Below w.heap.size w w' := by
  have kc := fun (w : World) (C : Array Value) (n c : Nat) => Lib.run_convert_bytes_const (P := Tryd.prog) w 22 5 C n c Tryd.underlying22 Tryd.underlying5
  have B0 := below_al w (.cells #[.int .u8 97, .int .u8 32, .int .u8 70, .int .u8 69, .int .u8 84, .int .u8 67, .int .u8 72, .int .u8 32, .int .u8 49, .int .u8 32, .int .u8 40, .int .u8 85, .int .u8 73, .int .u8 68, .int .u8 41] 5 (15, 16))
  have TK : Calls Tryd.prog 9 #[.slice (some ⟨w.heap.size, 0, none⟩) 15 15] _ _ := tokens_any _ 15 _ ex1 (by decide) _ (henv.below B0) (byAt_litT w ex1 _ rfl 5 (15, 16))
  have TK := Lib.hid TK
  have TG := Lib.hid (fun (W : World) => (tagTok_any _ _ 9 ex2 9 rfl (by omega) _ (byAt_litT W ex2 _ rfl 5 (9, 10))))
  have HB0 := Lib.hid B0
  clear henv B0
  go_enter Tryd.func8, Tryd.ntmps8
  go_wp2_with fail
  refine TK.out.mono ?_
  intro e w1 hp
  obtain ⟨v, he, ho, hb⟩ := toks_is hp ex1_toks
  subst he
  have ho : w1.ownsRow _ 38 3 v 10 (flatL encT (ex1T ++ [⟨0, [], 15⟩])) := ho
  obtain ⟨g, c, rfl, _, _⟩ := ho.form (by omega)
  have h7 : w1.cell? ⟨g, 7, none⟩ = some (.string ⟨#[70, 69, 84, 67, 72]⟩) := ho.cellAt 7 (by omega)
  have h24 : w1.cell? ⟨g, 24, none⟩ = some (.int .i64 3) := ho.cellAt 24 (by omega)
  have hg1 := (ho.lt g rfl).2
  have HB1 := Lib.hid (below_next HB0.out hb)
  clear hp ho hb TK HB0
  go_wp2_with fail
  refine (TG.out w1).mono ?_
  rintro e w2 ⟨he, hb⟩
  rw [ex2_tag] at he
  subst he
  have hb2 := below_next (below_al w1 (.cells (ex2.map fun x => Value.int .u8 (x.toNat : Int)).toArray 5 (9, 10))) hb
  have k7 := (hb2.cell (p := ⟨g, 7, none⟩) hg1).trans h7
  have k24 := (hb2.cell (p := ⟨g, 24, none⟩) hg1).trans h24
  have HB2 := Lib.hid (below_next HB1.out hb2)
  clear hb hb2 TG h7 h24 HB1
  go_wp2_with fail
  go_ret
  exact ⟨rfl, HB2.out⟩
end Go.Proofs.YtpklpfncohdlhaaDoor
