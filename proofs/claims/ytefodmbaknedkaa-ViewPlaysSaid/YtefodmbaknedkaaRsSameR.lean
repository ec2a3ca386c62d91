/- Same, of the reference, at responses. -/
import Derived.Test.YtefodmbaknedkaaVc
import Derived.Laws.StructEq
namespace Go.Proofs.Ytefodmbaknedkaa
open Go.RowKit


set_option maxRecDepth 100000 in
set_option maxHeartbeats 4000000 in
theorem rsame9_go (a b : RI) (A1 A2 : Option Addr) (n1 k1 n2 k2 : Nat) (e1 : a.body.length = n1) (e2 : b.body.length = n2) (w : World) (s1 : ByAt w.heap.size w A1 k1 a.body) (s2 : ByAt w.heap.size w A2 k2 b.body) :
    Calls Try.prog 27 #[.agg #[.int .i64 a.kind, .int .u32 (a.n : Int), .string ⟨a.tag.toArray⟩, .int .i64 a.status, .string ⟨a.text.toArray⟩, .int .i64 a.items, .int .u8 (a.flags : Int), .int .u32 (a.uid : Int), .int .u32 (a.size : Int), .slice A1 n1 k1], .agg #[.int .i64 b.kind, .int .u32 (b.n : Int), .string ⟨b.tag.toArray⟩, .int .i64 b.status, .string ⟨b.text.toArray⟩, .int .i64 b.items, .int .u8 (b.flags : Int), .int .u32 (b.uid : Int), .int .u32 (b.size : Int), .slice A2 n2 k2]] w fun e w' => e = .returned (.bool (rsSame a b)) ∧ Below w.heap.size w w' := by
  have B0 := below_2box w (.cells #[.int .i64 a.kind, .int .u32 (a.n : Int), .string ⟨a.tag.toArray⟩, .int .i64 a.status, .string ⟨a.text.toArray⟩, .int .i64 a.items, .int .u8 (a.flags : Int), .int .u32 (a.uid : Int), .int .u32 (a.size : Int), .slice A1 n1 k1] 47) (.cells #[.int .i64 b.kind, .int .u32 (b.n : Int), .string ⟨b.tag.toArray⟩, .int .i64 b.status, .string ⟨b.text.toArray⟩, .int .i64 b.items, .int .u8 (b.flags : Int), .int .u32 (b.uid : Int), .int .u32 (b.size : Int), .slice A2 n2 k2] 47)
  have C1 := convS _ _ A1 k1 n1 a.body (s1.below B0) e1
  have C2 := convS _ _ A2 k2 n2 b.body (s2.below B0) e2
  have HB0 := Lib.hid B0
  clear s1 s2 e1 e2 B0
  unfold rsSame
  cases p0 : (a.kind == b.kind) with
  | false =>
    go_enter Try.func27, Try.ntmps27
    go_wp2_with fail
    go_ret
    exact ⟨by first | rfl | simp, HB0.out⟩
  | true =>
    cases p1 : ((a.n : Int) == (b.n : Int)) with
    | false =>
      go_enter Try.func27, Try.ntmps27
      go_wp2_with fail
      go_ret
      exact ⟨by first | rfl | simp, HB0.out⟩
    | true =>
      cases p2 : (a.tag == b.tag) with
      | false =>
        go_enter Try.func27, Try.ntmps27
        go_wp2_with fail
        go_ret
        exact ⟨by first | rfl | simp, HB0.out⟩
      | true =>
        cases p3 : (a.status == b.status) with
        | false =>
          go_enter Try.func27, Try.ntmps27
          go_wp2_with fail
          go_ret
          exact ⟨by first | rfl | simp, HB0.out⟩
        | true =>
          cases p4 : (a.text == b.text) with
          | false =>
            go_enter Try.func27, Try.ntmps27
            go_wp2_with fail
            go_ret
            exact ⟨by first | rfl | simp, HB0.out⟩
          | true =>
            cases p5 : (a.items == b.items) with
            | false =>
              go_enter Try.func27, Try.ntmps27
              go_wp2_with fail
              go_ret
              exact ⟨by first | rfl | simp, HB0.out⟩
            | true =>
              cases p6 : ((a.flags : Int) == (b.flags : Int)) with
              | false =>
                go_enter Try.func27, Try.ntmps27
                go_wp2_with fail
                go_ret
                exact ⟨by first | rfl | simp, HB0.out⟩
              | true =>
                cases p7 : ((a.uid : Int) == (b.uid : Int)) with
                | false =>
                  go_enter Try.func27, Try.ntmps27
                  go_wp2_with fail
                  go_ret
                  exact ⟨by first | rfl | simp, HB0.out⟩
                | true =>
                  cases p8 : ((a.size : Int) == (b.size : Int)) with
                  | false =>
                    go_enter Try.func27, Try.ntmps27
                    go_wp2_with fail
                    go_ret
                    exact ⟨by first | rfl | simp, HB0.out⟩
                  | true =>
                    go_enter Try.func27, Try.ntmps27
                    go_wp2_with fail
                    go_ret
                    exact ⟨by first | rfl | simp, HB0.out⟩
theorem rsame9_any (a b : RI) (A1 A2 : Option Addr) (k1 k2 : Nat) (w : World) (s1 : ByAt w.heap.size w A1 k1 a.body) (s2 : ByAt w.heap.size w A2 k2 b.body) :
    Calls Try.prog 27 #[rsV a A1 k1, rsV b A2 k2] w fun e w' => e = .returned (.bool (rsSame a b)) ∧ Below w.heap.size w w' := rsame9_go a b A1 A2 _ k1 _ k2 rfl rfl w s1 s2
end Go.Proofs.Ytefodmbaknedkaa
