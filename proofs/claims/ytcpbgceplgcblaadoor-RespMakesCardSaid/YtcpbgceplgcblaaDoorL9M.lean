/- The law RespMakes: the walk. -/
import Derived.Test.YtcpbgceplgcblaaDoorGj
import Derived.Test.YtcpbgceplgcblaaDoorRsSameR
import Derived.Deep.QuietTactic
import Derived.BigQuiet
namespace Go.Proofs.YtcpbgceplgcblaaDoor
open Go.RowKit

set_option maxRecDepth 100000 in
set_option maxHeartbeats 4000000 in
theorem respMakes_any (kind : Int) (n : Nat) (hn : n ≤ 4294967295) (tag text : ByteArray) (w : World) (henv : Env w) :
    Calls Tryd.prog 6 #[.int .i64 kind, .int .u32 (n : Int), .agg #[.string tag, .string text]] w fun e w' => e = .returned (.bool true) ∧ Below w.heap.size w w' := by
  have AL := Lib.hid (fun W (hW : Below w.heap.size w W) => alive9_any W (henv.below hW))
  have CN := Lib.hid (fun W => count_go kind n hn W)
  have RP := Lib.hid (fun W => reply_go tag text kind W)
  have S1 := fun W => rsame9_any ⟨kind, n, [], 0, [], 0, 0, 0, 0, []⟩ ⟨kind, n, [], 0, [], 0, 0, 0, 0, []⟩ none none 0 0 W (ByAt.nil _ _ _ _) (ByAt.nil _ _ _ _)
  have S2 := fun W => rsame9_any ⟨9, 0, tag.data.toList, kind, text.data.toList, 0, 0, 0, 0, []⟩ ⟨9, 0, tag.data.toList, kind, text.data.toList, 0, 0, 0, 0, []⟩ none none 0 0 W (ByAt.nil _ _ _ _) (ByAt.nil _ _ _ _)
  rw [rsSame_refl] at S1 S2
  unfold rsV at S1 S2
  have S1 := Lib.hid S1
  have S2 := Lib.hid S2
  have hi : ((n : Int)) ≤ 4294967295 := by omega
  clear henv
  by_cases h1 : 100 < tag.size
  · go_enter Tryd.func6, Tryd.ntmps6
    go_wp2_with fail
    go_quiet (fail)
    go_wp2_with fail
    refine (AL.out _ (belDrawN (below_al _ _) _)).mono ?_
    rintro e w1 ⟨rfl, hb⟩
    have HB1 := Lib.hid (below_next (belDrawN (below_al w (.cells #[.string tag, .string text] 40)) _) hb)
    clear hb
    go_wp2_with fail
    go_ret
    exact ⟨rfl, HB1.out⟩
  by_cases h2 : 100 < text.size
  · go_enter Tryd.func6, Tryd.ntmps6
    go_wp2_with fail
    go_quiet (fail)
    go_wp2_with fail
    refine (AL.out _ (belDrawN (below_al _ _) _)).mono ?_
    rintro e w1 ⟨rfl, hb⟩
    have HB1 := Lib.hid (below_next (belDrawN (below_al w (.cells #[.string tag, .string text] 40)) _) hb)
    clear hb
    go_wp2_with fail
    go_ret
    exact ⟨rfl, HB1.out⟩
  go_enter Tryd.func6, Tryd.ntmps6
  go_wp2_with fail
  go_quiet (fail)
  go_wp2_with fail
  refine (AL.out _ (belDrawN (below_al _ _) _)).mono ?_
  rintro e w1 ⟨rfl, hb⟩
  have HB1 := Lib.hid (below_next (belDrawN (below_al w (.cells #[.string tag, .string text] 40)) _) hb)
  clear hb
  go_wp2_with fail
  refine (CN.out _).mono ?_
  rintro e w2 ⟨rfl, hb⟩
  have HB2 := Lib.hid (below_next HB1.out hb)
  clear hb
  go_wp2_with fail
  refine (S1.out _).mono ?_
  rintro e w3 ⟨rfl, hb⟩
  have HB3 := Lib.hid (below_next HB2.out hb)
  clear hb
  go_wp2_with fail
  refine (RP.out _).mono ?_
  rintro e w4 ⟨rfl, hb⟩
  have HB4 := Lib.hid (below_next HB3.out hb)
  clear hb
  go_wp2_with fail
  refine (S2.out _).mono ?_
  rintro e w5 ⟨rfl, hb⟩
  have HB5 := Lib.hid (below_next HB4.out hb)
  clear hb
  go_wp2_with fail
  go_ret
  exact ⟨rfl, HB5.out⟩
end Go.Proofs.YtcpbgceplgcblaaDoor
