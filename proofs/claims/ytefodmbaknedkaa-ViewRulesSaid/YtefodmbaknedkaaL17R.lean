/- The law ViewRules. -/
import Derived.Test.YtefodmbaknedkaaL17Z
namespace Go.Proofs.Ytefodmbaknedkaa
open Go.RowKit

set_option maxRecDepth 100000 in
set_option maxHeartbeats 1000000 in
theorem viewRules_law (n : Nat) (hn : n ≤ 65535) (r : RI) (A : Option Addr) (k : Nat) (hr : RIok r) (w : World) (_hA : ByAt w.heap.size w A k r.body) :
    Calls Try.prog 6 #[.int .u16 (n : Int), rsV r A k] w fun e w' => e = .returned (.bool true) ∧ Below w.heap.size w w' := by
  have AL := Lib.hid (fun W => alive17_any W)
  have BX := RsBox.new w r A k
  have B0 := Lib.hid (below_al w (.cells #[.int .i64 r.kind, .int .u32 (r.n : Int), .string ⟨r.tag.toArray⟩, .int .i64 r.status, .string ⟨r.text.toArray⟩, .int .i64 r.items, .int .u8 (r.flags : Int), .int .u32 (r.uid : Int), .int .u32 (r.size : Int), .slice A r.body.length k] 47))
  have hw : IntKind.i64.wrap (n : Int) = (n : Int) := IntWalk.i64_in _ (by omega)
  have F1 := Lib.hid (fun W => vfollow_any n (by omega) r A k hr.n W)
  have F2 := Lib.hid (fun W => rfollow17_any n (by omega) r A k hr.n W)
  have HBX := Lib.hid BX
  clear BX
  generalize (folV n r).1 = m at *
  generalize (folV n r).2 = ok at *
  unfold rsV
  go_enter Try.func6, Try.ntmps6
  go_upto_region 1 with (fail)
  generalize w.alloc _ = w1 at *
  obtain ⟨c0, c1, c2, c3, c4, c5, c6, c7, c8, c9⟩ := HBX.out.cells
  have HLT := Lib.hid HBX.out.lt
  go_wp2_with fail
  refine (F1.out _).mono ?_
  rintro e w2 ⟨rfl, h2⟩
  have BX2 := HBX.out.below h2
  obtain ⟨d0, d1, d2, d3, d4, d5, d6, d7, d8, d9⟩ := BX2.cells
  have H2 := Lib.hid (below_next B0.out h2)
  clear h2 F1 c0 c1 c2 c3 c4 c5 c6 c7 c8 c9
  go_wp2_with fail
  refine (F2.out _).mono ?_
  rintro e w3 ⟨rfl, h3⟩
  have H3 := Lib.hid (below_next H2.out h3)
  clear h3 F2 d0 d1 d2 d3 d4 d5 d6 d7 d8 d9 BX2
  go_wp2_with fail
  refine (AL.out _).mono ?_
  rintro e w4 ⟨rfl, h4⟩
  have H4 := Lib.hid (below_next H3.out h4)
  clear h4 AL
  go_wp2_with fail
  go_ret
  exact ⟨by simp, H4.out⟩
end Go.Proofs.Ytefodmbaknedkaa
