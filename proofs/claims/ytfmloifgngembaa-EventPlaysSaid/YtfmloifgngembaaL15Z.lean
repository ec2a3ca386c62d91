/- The laws of layer 15: the chapter's example; EventNames. -/
import Derived.Test.YtfmloifgngembaaL15Q
import Derived.WalkKit
namespace Go.Proofs.Ytfmloifgngembaa
open Go.RowKit

def exE : List EvI := [⟨2, 3, 0⟩, ⟨3, 5, 8⟩, ⟨1, 9, 0⟩, ⟨3, 5, 16⟩]
def exT : List EvI := [⟨1, 9, 0⟩, ⟨3, 5, 16⟩]
set_option maxRecDepth 100000 in
set_option maxHeartbeats 2000000 in
theorem alive15_any (w : World) : Calls Try.prog 10 #[] w fun e w' => e = .returned (.bool true) ∧ Below w.heap.size w w' := by
  have N := Lib.hid (qnew_any w)
  have E1 := Lib.hid (show pushE [] exE = exE by decide)
  have E2 := Lib.hid (show sqE (toldE false exE) = exT by decide)
  have E3 := Lib.hid (show restE false exE = [⟨2, 3, 0⟩] by decide)
  have E4 := Lib.hid (show hasE [⟨2, 3, 0⟩] 3 = true by decide)
  go_enter Try.func10, Try.ntmps10
  go_wp2_with fail
  refine N.out.mono ?_
  rintro e w1 ⟨g, S, rfl, t1, s1, hb1⟩
  have Q1 := QX.start rfl t1 s1 hb1
  have HQ := Lib.hid (fun W (hW : W = w1.alloc (.cells #[.int .i64 2, .int .u32 3, .int .u8 0, .int .i64 3, .int .u32 5, .int .u8 8, .int .i64 1, .int .u32 9, .int .u8 0, .int .i64 3, .int .u32 5, .int .u8 16] 39)) => (show Calls Try.prog 12 #[.pointer (some ⟨g, 0, none⟩), .slice (some ⟨w1.heap.size, 0, none⟩) 4 4] W fun e w' => e = .returned (.tuple #[]) ∧ QX w.heap.size g none (pushE [] exE) [] w w' from by
    subst hW
    have ho : EvRow.own ⟨some ⟨w1.heap.size, 0, none⟩, 4, exE⟩ w1.heap.size (w1.alloc (.cells #[.int .i64 2, .int .u32 3, .int .u8 0, .int .i64 3, .int .u32 5, .int .u8 8, .int .i64 1, .int .u32 9, .int .u8 0, .int .i64 3, .int .u32 5, .int .u8 16] 39)) := World.ownsRow_lit (base := w1.heap.size) (e := 39) (size := 3) w1 #[.int .i64 2, .int .u32 3, .int .u8 0, .int .i64 3, .int .u32 5, .int .u8 8, .int .i64 1, .int .u32 9, .int .u8 0, .int .i64 3, .int .u32 5, .int .u8 16] 4 (Nat.le_refl _) (by decide) rfl
    exact ((Q1.add (below_al w1 _) ho).push (some ⟨w1.heap.size, 0, none⟩) 4 exE (by decide) (by decide) (by intro x hx; simp [exE] at hx; rcases hx with rfl | rfl | rfl | rfl <;> (unfold evOk; decide)) ho.sl (.inr (.inr ⟨_, List.mem_cons_self .., rfl⟩))).mono fun _ _ ⟨h1, h2⟩ => ⟨h1, h2.sub fun r hr => by cases hr⟩))
  clear t1 s1 hb1 Q1 N
  go_wp2_with fail
  refine (HQ.out _ rfl).mono ?_
  rintro e w2 ⟨rfl, q2⟩
  rw [E1.out] at q2
  have F2 := q2.flush false (by decide)
  rw [E2.out, E3.out] at F2
  have F2 := Lib.hid F2
  clear q2 HQ
  go_wp2_with fail
  refine F2.out.mono ?_
  rintro e w3 ⟨⟨A, c, l⟩, rfl, rfl, q3⟩
  have Q3 := Lib.hid q3
  have EQ := Lib.hid (fun W (hW : W = w3.alloc (.cells #[.int .i64 1, .int .u32 9, .int .u8 0, .int .i64 3, .int .u32 5, .int .u8 16] 39)) => (show Calls Try.prog 16 #[.slice A 2 c, .slice (some ⟨w3.heap.size, 0, none⟩) 2 2] W fun e w' => e = .returned (.bool true) ∧ QX w.heap.size g none [⟨2, 3, 0⟩] [] w w' from by
    subst hW
    have k := below_al w3 (.cells #[.int .i64 1, .int .u32 9, .int .u8 0, .int .i64 3, .int .u32 5, .int .u8 16] 39)
    refine (equalEv_any A (some ⟨w3.heap.size, 0, none⟩) c 2 exT exT (by decide) (by decide) _ ((Q3.out.below k).rw _ (List.mem_cons_self ..)).sl (slAt_lit (heap_alloc_new _ _) rfl)).mono ?_
    rintro e w' ⟨rfl, hb⟩
    exact ⟨rfl, ((Q3.out.below k).below hb).sub fun r hr => by cases hr⟩))
  clear q3 F2 Q3
  go_wp2_with fail
  refine (EQ.out _ rfl).mono ?_
  rintro e w4 ⟨rfl, q4⟩
  have C4 := Lib.hid (q4.len (by decide))
  clear q4 EQ
  go_wp2_with fail
  refine C4.out.mono ?_
  rintro e w5 ⟨rfl, q5⟩
  have C5 := q5.has 3 (by decide) (by decide)
  rw [E4.out] at C5
  have C5 := Lib.hid C5
  clear q5 C4
  go_wp2_with fail
  refine C5.out.mono ?_
  rintro e w6 ⟨rfl, q6⟩
  have HB := Lib.hid q6.be
  clear q6 C5
  go_wp2_with fail
  go_ret
  exact ⟨rfl, HB.out⟩
end Go.Proofs.Ytfmloifgngembaa
