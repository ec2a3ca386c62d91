/- Law 10: ReplyParses. -/
import Derived.Test.YtpoejnajnaolpaaGreatDoorRpAlive
import Derived.Test.YtpoejnajnaolpaaGreatDoorRsSameR
import Derived.Test.YtpoejnajnaolpaaGreatDoorRf10P
namespace Go.Proofs.YtpoejnajnaolpaaGreatDoor
open Go.RowKit

/-- What Parse finds. -/
def PaF (l : List UInt8) (x : Int) (r : RI) (m : Nat) (ok : Bool) : Prop :=
  (ok = true ∧ (0 ≤ x ∧ x < (l.length : Int)) ∧ RpAt (l.drop x.toNat) r ∧ m = x.toNat + (rsForm r).length) ∨
  (ok = false ∧ (0 ≤ x ∧ x < (l.length : Int) → ∀ r, ¬ RpAt (l.drop x.toNat) r) ∧ r = rsZero ∧ m = 0)
theorem PaF.det {l : List UInt8} {x : Int} {r q : RI} {m k : Nat} {a b : Bool} (h : PaF l x r m a) (h2 : PaF l x q k b) : r = q ∧ m = k ∧ a = b := by
  rcases h with ⟨rfl, hi, hr, rfl⟩ | ⟨rfl, hn, rfl, rfl⟩
  · rcases h2 with ⟨rfl, _, hr2, rfl⟩ | ⟨rfl, hn, _, _⟩
    · obtain rfl := hr.one hr2
      exact ⟨rfl, rfl, rfl⟩
    · exact absurd hr (hn hi r)
  · rcases h2 with ⟨rfl, hi, hr2, _⟩ | ⟨rfl, _, rfl, rfl⟩
    · exact absurd hr2 (hn hi q)
    · exact ⟨rfl, rfl, rfl⟩
theorem PaPo.gen {n0 : Nat} {l : List UInt8} {x : Int} {e : Ending} {w' : World} (h : PaPo n0 l x e w') : ∃ r A' c' m ok, e = .returned (.tuple #[rsV r A' c', .int .i64 ((m : Nat) : Int), .bool ok]) ∧ ByAt w'.heap.size w' A' c' r.body ∧ PaF l x r m ok := by
  unfold PaPo at h
  rcases h with ⟨r, A', c', m, hi, hr, hm, _, rfl, hb, _⟩ | ⟨hn, rfl⟩
  · exact ⟨r, A', c', m, true, rfl, hb, .inl ⟨rfl, hi, hr, hm⟩⟩
  · exact ⟨rsZero, none, 0, 0, false, rfl, ByAt.of_own (base := 0) (e := 5) (World.ownsRow_nil _ _ _ _), .inr ⟨rfl, hn, rfl, rfl⟩⟩

set_option maxRecDepth 100000 in
set_option maxHeartbeats 4000000 in
theorem replyParses_any (A : Option Addr) (c : Nat) (l : List UInt8) (hl : l.length ≤ maxLen) (x : Int) (h1 : -9223372036854775808 ≤ x) (h2 : x ≤ 9223372036854775807) (w : World) (henv : Env w) (hA : ByAt w.heap.size w A c l) :
    Calls Tryz.prog 3 #[.slice A l.length c, .int .i64 x] w fun e w' => e = .returned (.bool true) ∧ Below w.heap.size w w' := by
  have AL := Lib.hid (fun W (h : Below w.heap.size w W) => alive10_any W (henv.below h))
  unfold maxLen at hl
  by_cases hbig : 2000 < l.length
  · have AL := Lib.hid (AL.out w (Below.refl _ _))
    have d1 : decide (2000 < (l.length : Int)) = true := by simp; omega
    clear hA henv
    generalize l.length = n at *
    go_enter Tryz.func3, Tryz.ntmps3
    go_wp2_with fail
    refine AL.out.mono ?_
    rintro e w2 ⟨rfl, hb⟩
    go_wp2_with fail
    go_ret
    exact ⟨rfl, hb⟩
  · have d1 : decide (2000 < (l.length : Int)) = false := by simp; omega
    have PA := Lib.hid ((parse_any _ c l.length A l x h1 h2 rfl (by omega) w henv hA).mono fun e w' ⟨a, b⟩ => (⟨a.gen, b⟩ : _ ∧ Below w.heap.size w w'))
    have RA := Lib.hid (fun W (h : Below w.heap.size w W) => (rparse10_any _ c l.length A l x h1 h2 rfl (by omega) W ((hA.below h))).mono fun e w' ⟨a, b⟩ => (⟨a.gen, b⟩ : _ ∧ Below W.heap.size W w'))
    obtain ⟨n, hn⟩ : ∃ n, l.length = n := ⟨_, rfl⟩
    rw [hn] at PA RA d1 ⊢
    clear hA henv hl hbig hn h1 h2
    have HVA : Hid (∀ g r A2 c2 W, RsBox g r A2 c2 W → (Instr.loadAt 27 (.pointer (some ⟨g, 0, none⟩))).run Tryz.prog W = .ok (rsV r A2 c2) W) := Lib.hid (fun g r A2 c2 W h => h.load)
    go_enter Tryz.func3, Tryz.ntmps3
    go_wp2_with fail
    refine PA.out.mono ?_
    rintro e w1 ⟨⟨r, A1, c1, m, ok, rfl, hy1, hf1⟩, hb1⟩
    have HF1 := Lib.hid hf1
    have HB1 := Lib.hid hb1
    have BX1 := Lib.hid (RsBox.new w1 r A1 c1)
    have HAL1 := Lib.hid (below_al w1 (.cells #[.int .i64 r.kind, .int .u32 (r.n : Int), .string ⟨r.tag.toArray⟩, .int .i64 r.status, .string ⟨r.text.toArray⟩, .int .i64 r.items, .int .u8 (r.flags : Int), .int .u32 (r.uid : Int), .int .u32 (r.size : Int), .slice A1 r.body.length c1] 27))
    have HY1 := Lib.hid (hy1.below HAL1.out)
    have HB2 := Lib.hid (below_next HB1.out HAL1.out)
    clear hf1 hb1 hy1 PA
    unfold rsV
    go_upto_region 4 with (fail)
    generalize w1.alloc (.cells #[.int .i64 r.kind, .int .u32 (r.n : Int), .string ⟨r.tag.toArray⟩, .int .i64 r.status, .string ⟨r.text.toArray⟩, .int .i64 r.items, .int .u8 (r.flags : Int), .int .u32 (r.uid : Int), .int .u32 (r.size : Int), .slice A1 r.body.length c1] 27) = w2 at *
    have RA := Lib.hid (RA.out w2 HB2.out)
    go_wp2_with fail
    refine RA.out.mono ?_
    rintro e w3 ⟨⟨q, A2, c2, m2, ok2, rfl, hy3, hf3⟩, hb3⟩
    obtain ⟨rfl, rfl, rfl⟩ := HF1.out.det hf3
    have HB3 := Lib.hid (below_next HB2.out hb3)
    have BX3 := Lib.hid (BX1.out.below hb3)
    have HY3 := Lib.hid ((HY1.out.mono HAL1.out.size).below hb3)
    have BY3 := Lib.hid (RsBox.new w3 r A2 c2)
    have HAL3 := Lib.hid (below_al w3 (.cells #[.int .i64 r.kind, .int .u32 (r.n : Int), .string ⟨r.tag.toArray⟩, .int .i64 r.status, .string ⟨r.text.toArray⟩, .int .i64 r.items, .int .u8 (r.flags : Int), .int .u32 (r.uid : Int), .int .u32 (r.size : Int), .slice A2 r.body.length c2] 27))
    have HB4 := Lib.hid (below_next HB3.out HAL3.out)
    have BX4 := Lib.hid (BX3.out.below HAL3.out)
    have HY4 := Lib.hid ((HY3.out.mono hb3.size).below HAL3.out)
    have HZ4 := Lib.hid (hy3.below HAL3.out)
    clear hf3 hb3 hy3 RA
    unfold rsV
    go_upto_region 5 with (fail)
    generalize w3.alloc (.cells #[.int .i64 r.kind, .int .u32 (r.n : Int), .string ⟨r.tag.toArray⟩, .int .i64 r.status, .string ⟨r.text.toArray⟩, .int .i64 r.items, .int .u8 (r.flags : Int), .int .u32 (r.uid : Int), .int .u32 (r.size : Int), .slice A2 r.body.length c2] 27) = w4 at *
    have AL := Lib.hid (AL.out w4 HB4.out)
    go_wp2_with fail
    refine AL.out.mono ?_
    rintro e w5 ⟨rfl, hb5⟩
    have HB5 := Lib.hid (below_next HB4.out hb5)
    have BX5 := Lib.hid (BX4.out.below hb5)
    have BY5 := Lib.hid (BY3.out.below hb5)
    have SM := rsame9_any r r A1 A2 c1 c2 w5 (((HY4.out.mono HAL3.out.size).below hb5).mono hb5.size) (((HZ4.out.mono HAL3.out.size).below hb5).mono hb5.size)
    rw [rsSame_refl] at SM
    unfold rsV at SM HVA
    have SM := Lib.hid SM
    have l1 := HVA.out _ _ _ _ _ BX5.out
    have l2 := HVA.out _ _ _ _ _ BY5.out
    obtain ⟨x0, x1, x2, x3, x4, x5, x6, x7, x8, x9⟩ := BX5.out.cells
    obtain ⟨y0, y1, y2, y3, y4, y5, y6, y7, y8, y9⟩ := BY5.out.cells
    clear hb5 AL HVA
    go_wp2_with fail
    refine SM.out.mono ?_
    rintro e w6 ⟨rfl, hb6⟩
    have HB6 := Lib.hid (below_next HB5.out hb6)
    clear hb6 SM l1 l2 x0 x1 x2 x3 x4 x5 x6 x7 x8 x9 y0 y1 y2 y3 y4 y5 y6 y7 y8 y9
    go_wp2_with fail
    go_ret
    exact ⟨rfl, HB6.out⟩
end Go.Proofs.YtpoejnajnaolpaaGreatDoor
