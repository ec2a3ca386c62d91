/- The laws of layer 17: the chapter's example; ViewRules. -/
import Derived.Test.YtefodmbaknedkaaVo
import Derived.Test.YtefodmbaknedkaaRpSL
import Derived.WalkKit
namespace Go.Proofs.Ytefodmbaknedkaa
open Go.RowKit

def exV : List EvI := [⟨2, 5, 0⟩, ⟨1, 12, 0⟩, ⟨1, 13, 0⟩]
theorem exV_ap : apV [3, 5, 9] false exV = ([3, 9, 12, 13], [rN 3 2, rN 1 4]) := by rfl
theorem isSet359 : IsSet [3, 5, 9] [3, 5, 9] := ⟨by decide, fun n => ⟨fun h => ⟨h, by simp at h; omega⟩, fun h => h.1⟩⟩
theorem map_rx0 (l : List RI) : (l.map rx0).map (fun x => x.r) = l := by
  rw [List.map_map]
  exact List.map_id' l
/-- SameList of two lists of such responses that are the same. -/
theorem same0_any (l : List RI) (A1 A2 : Option Addr) (c1 c2 n : Nat) (hn : l.length = n) (hl : n ≤ 1000000) (w : World) (h1 : RsAt w A1 (l.map rx0)) (h2 : RsAt w A2 (l.map rx0)) :
    Calls Try.prog 13 #[.slice A1 n c1, .slice A2 n c2] w fun e w' => e = .returned (.bool true) ∧ Below w.heap.size w w' :=
  sameList_t (l.map rx0) (l.map rx0) rfl A1 A2 c1 c2 n n (by rw [List.length_map]; exact hn) (by rw [List.length_map]; exact hn) hl w h1 h2
set_option maxRecDepth 100000 in
set_option maxHeartbeats 2000000 in
theorem alive17_any (w : World) : Calls Try.prog 9 #[] w fun e w' => e = .returned (.bool true) ∧ Below w.heap.size w w' := by
  have ho := World.ownsRow_lit (base := w.heap.size) (e := 35) (size := 1) w #[.int .u32 3, .int .u32 5, .int .u32 9] 3 (Nat.le_refl _) (by decide) rfl
  have N := Lib.hid (vnew_any (some ⟨w.heap.size, 0, none⟩) 3 [3, 5, 9] [3, 5, 9] (by decide) (by decide) isSet359 _ (SlAt.of_own encU_len ho))
  have B0 := Lib.hid (below_al w (.cells #[.int .u32 3, .int .u32 5, .int .u32 9] 35))
  clear ho
  go_enter Try.func9, Try.ntmps9
  go_wp2_with fail
  refine N.out.mono ?_
  rintro e w1 ⟨g, S, rfl, t1, s1, hb1⟩
  have Q1 : OX w.heap.size (VT g [3, 5, 9]) [] w w1 := OX.start rfl t1 (fun k hk => Nat.le_trans B0.out.size (s1 k hk)) (below_next B0.out hb1)
  have HQ := Lib.hid (fun W (hW : W = w1.alloc (.cells #[.int .i64 2, .int .u32 5, .int .u8 0, .int .i64 1, .int .u32 12, .int .u8 0, .int .i64 1, .int .u32 13, .int .u8 0] 55)) => (show Calls Try.prog 14 #[.pointer (some ⟨g, 0, none⟩), .slice (some ⟨w1.heap.size, 0, none⟩) 3 3] W fun e w' => ∃ A c, e = .returned (.slice A 2 c) ∧ OX w.heap.size (VT g [3, 9, 12, 13]) [rsI w.heap.size A c [rN 3 2, rN 1 4]] w w' from by
    subst hW
    have ho := World.ownsRow_lit (base := w1.heap.size) (e := 55) (size := 3) w1 #[.int .i64 2, .int .u32 5, .int .u8 0, .int .i64 1, .int .u32 12, .int .u8 0, .int .i64 1, .int .u32 13, .int .u8 0] 3 (Nat.le_refl _) (by decide) rfl
    have Q2 := Q1.add (VT.objK _ _) (below_al w1 _) [rowI w1.heap.size 55 3 (some ⟨w1.heap.size, 0, none⟩) 3 3 (flatL encEv exV)] (fun x hx => by
      obtain rfl := List.mem_singleton.1 hx
      exact ⟨ho, fun k ⟨a, ha, e⟩ => by cases ha; exact Nat.le_of_eq e⟩)
    have C := Q2.vapply (some ⟨w1.heap.size, 0, none⟩) 3 exV (by decide) (by decide) (by decide) (by intro x hx; simp [exV] at hx; rcases hx with rfl | rfl | rfl <;> (unfold evOk; decide)) (SlAt.of_own encEv_len ho) (.inr (.inr ⟨_, List.mem_cons_self .., fun a ha => ⟨a, ha, rfl⟩⟩))
    rw [exV_ap] at C
    refine C.mono ?_
    rintro e w' ⟨A, c, rfl, h⟩
    exact ⟨A, c, rfl, h.sub fun x hx => by obtain rfl := List.mem_singleton.1 hx; exact List.mem_cons_self ..⟩))
  clear t1 s1 hb1 Q1 N
  go_wp2_with fail
  refine (HQ.out _ rfl).mono ?_
  rintro e w2 ⟨A, c, rfl, q2⟩
  have Q2 := Lib.hid q2
  have SM := Lib.hid (fun W (hW : W = w2.alloc (.cells #[.int .i64 3, .int .u32 2, .string ⟨#[]⟩, .int .i64 0, .string ⟨#[]⟩, .int .i64 0, .int .u8 0, .int .u32 0, .int .u32 0, .slice none 0 0, .int .i64 1, .int .u32 4, .string ⟨#[]⟩, .int .i64 0, .string ⟨#[]⟩, .int .i64 0, .int .u8 0, .int .u32 0, .int .u32 0, .slice none 0 0] 47)) => (show Calls Try.prog 13 #[.slice A 2 c, .slice (some ⟨w2.heap.size, 0, none⟩) 2 2] W fun e w' => e = .returned (.bool true) ∧ OX w.heap.size (VT g [3, 9, 12, 13]) [] w w' from by
    subst hW
    have ho := World.ownsRow_lit (base := w2.heap.size) (e := 47) (size := 10) w2 #[.int .i64 3, .int .u32 2, .string ⟨#[]⟩, .int .i64 0, .string ⟨#[]⟩, .int .i64 0, .int .u8 0, .int .u32 0, .int .u32 0, .slice none 0 0, .int .i64 1, .int .u32 4, .string ⟨#[]⟩, .int .i64 0, .string ⟨#[]⟩, .int .i64 0, .int .u8 0, .int .u32 0, .int .u32 0, .slice none 0 0] 2 (Nat.le_refl _) (by decide) rfl
    have q3 := Q2.out.vbel (below_al w2 (.cells #[.int .i64 3, .int .u32 2, .string ⟨#[]⟩, .int .i64 0, .string ⟨#[]⟩, .int .i64 0, .int .u8 0, .int .u32 0, .int .u32 0, .slice none 0 0, .int .i64 1, .int .u32 4, .string ⟨#[]⟩, .int .i64 0, .string ⟨#[]⟩, .int .i64 0, .int .u8 0, .int .u32 0, .int .u32 0, .slice none 0 0] 47))
    have hp : ∀ r ∈ [rN 3 2, rN 1 4], plainR r := fun r hr => by
      simp at hr
      rcases hr with rfl | rfl
      · exact plain_N _ _
      · exact plain_N _ _
    refine (same0_any [rN 3 2, rN 1 4] A (some ⟨w2.heap.size, 0, none⟩) c 2 2 rfl (by decide) _ (rsI_at hp (q3.it _ (List.mem_cons_self ..))) (rsAt_own (c := 2) hp ho)).mono ?_
    rintro e w' ⟨rfl, hb⟩
    exact ⟨rfl, (q3.vbel hb).sub fun x hx => by cases hx⟩))
  clear q2 HQ Q2
  go_wp2_with fail
  refine (SM.out _ rfl).mono ?_
  rintro e w3 ⟨rfl, q3⟩
  have C3 := Lib.hid q3.vlen
  clear q3 SM
  go_wp2_with fail
  refine C3.out.mono ?_
  rintro e w4 ⟨rfl, q4⟩
  have HB := Lib.hid q4.be
  clear q4 C3
  go_wp2_with fail
  go_ret
  exact ⟨rfl, HB.out⟩
end Go.Proofs.Ytefodmbaknedkaa
