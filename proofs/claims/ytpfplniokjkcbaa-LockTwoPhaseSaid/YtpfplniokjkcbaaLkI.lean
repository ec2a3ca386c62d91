/- The lock table: Blocked. -/
import Derived.Test.YtpfplniokjkcbaaLkU
import Derived.Deep.QuietTactic
import Derived.Deep.LoopGhost
import Derived.CellFam
import Derived.BigQuiet
namespace Go.Proofs.Ytpfplniokjkcbaa
open Go.RowKit Go.Maps

theorem quietS {f : FuncId} {args : Array Value} {w : World} {n : Nat} {v : Value} (h : Calls Try.prog f args (w.drewN n) fun e w' => e = .returned v ∧ w.drewN n = w') :
    Calls Try.prog f args (w.drewN n) fun e w' => e = .returned v ∧ ∃ m, w' = w.drewN m := Calls.quiet_of_same (h.mono fun _ _ ⟨a, b⟩ => ⟨a, b.symm⟩)
/-- Blocked over a test of holding, and what is said of the first lock that fails it. -/
def blkG (H Y : Int → Bool) : List Int → Bool
  | [] => false
  | k :: l => if H k = true then blkG H Y l else Y k
theorem blkG_drop {H Y : Int → Bool} {l : List Int} {k : Nat} (h : k < l.length) : blkG H Y (l.drop k) = if H l[k] = true then blkG H Y (l.drop (k + 1)) else Y l[k] := by
  rw [List.drop_eq_getElem_cons h]
  rfl
theorem blkG_L (L : List Int) (o : Int) : ∀ l, blkG (fun k => decide (ownL L k = o ∧ 0 ≤ ownL L k)) (fun k => decide (0 ≤ ownL L k)) l = blkL L o l
  | [] => rfl
  | k :: l => by
    unfold blkG blkL
    rw [blkG_L L o l]
    by_cases e : ownL L k = o ∧ 0 ≤ ownL L k
    · rw [if_pos (decide_eq_true e), if_neg (by omega)]
    · rw [if_neg (by simpa using e), if_pos (by omega)]
theorem blkG_no : ∀ l, blkG (fun _ => false) (fun _ => false) l = false
  | [] => rfl
  | _ :: _ => rfl
set_option maxRecDepth 100000 in
theorem blk1_any (tv : Value) (bt bo : Nat) (o k : Int) (b : Bool) (w : World) (ct : w.cell? ⟨bt, 0, none⟩ = some tv) (co : w.cell? ⟨bo, 0, none⟩ = some (.int .i64 o))
    (hh : Calls Try.prog 30 #[tv, .int .i64 o, .int .i64 k] w fun e w' => e = .returned (.bool b) ∧ w = w') :
    Calls Try.prog 35 #[.int .i64 k, .pointer (some ⟨bt, 0, none⟩), .pointer (some ⟨bo, 0, none⟩)] w fun e w' => e = .returned (.bool (!b)) ∧ w = w' := by
  have C := Lib.hid hh
  clear hh
  go_enter Try.func35, Try.ntmps35
  go_wp2_with fail
  refine C.out.mono ?_
  rintro e w1 ⟨rfl, rfl⟩
  clear C
  go_wp2_with fail
  go_ret
  exact ⟨rfl, rfl⟩
set_option maxRecDepth 100000 in
set_option maxHeartbeats 1000000 in
theorem idxK_any (tv : Value) (bt bo : Nat) (o : Int) (H Y : Int → Bool) (A : Option Addr) (c : Nat) (l : List Int) (hl : l.length ≤ 1000) (hx : ∀ x ∈ l, I64 x) (w : World) (hS : SlAt encI 1 w A l)
    (ct : w.cell? ⟨bt, 0, none⟩ = some tv) (co : w.cell? ⟨bo, 0, none⟩ = some (.int .i64 o))
    (hh : ∀ k, I64 k → Calls Try.prog 30 #[tv, .int .i64 o, .int .i64 k] w fun e w' => e = .returned (.bool (H k)) ∧ w = w') :
    Calls Try.prog 34 #[.slice A l.length c, .func (Fn.func 35) #[] #[.pointer (some ⟨bt, 0, none⟩), .pointer (some ⟨bo, 0, none⟩)]] w fun e w' =>
      w = w' ∧ ∃ x : Int, e = .returned (.int .i64 x) ∧ ((x = -1 ∧ blkG H Y l = false) ∨ ∃ k : Nat, x = k ∧ ∃ hk : k < l.length, blkG H Y l = Y l[k]) := by
  have C := Lib.hid (fun k hk => blk1_any tv bt bo o k (H k) w ct co (hh k hk))
  have HS := Lib.hid hS
  clear hS hh
  go_enter Try.func34, Try.ntmps34
  go_wp2_with fail
  go_loopw [8] (fun i wr => ∃ k : Nat, k ≤ l.length ∧ i = .int .i64 k ∧ Hid (blkG H Y (l.drop k) = blkG H Y l) ∧ wr = w) (fun i _ => l.length - (intOf i).toNat)
  case atStart => exact ⟨0, Nat.zero_le _, rfl, Lib.hid (by rw [List.drop_zero]), rfl⟩
  case round =>
    obtain ⟨k, hk, rfl, ha, rfl⟩ := hrel
    by_cases hlt : k < l.length
    · obtain ⟨b, off, rfl, _, hc⟩ := HS.out.int hlt
      have C1 := Lib.hid (C.out l[k] (hx _ (List.getElem_mem hlt)))
      have hk0 : (0 : Int) ≤ (k : Int) := by omega
      have hk1 : (k : Int) < ((l.length : Nat) : Int) := by omega
      cases ht : H l[k] with
      | true =>
        have HN := Lib.hid (show blkG H Y (l.drop (k + 1)) = blkG H Y l from by rw [← ha.out, blkG_drop hlt, if_pos ht])
        rw [ht] at C1
        generalize l[k] = x at *
        clear ht ha C ct co hx
        go_wp2_with fail
        refine C1.out.mono ?_
        rintro e w' ⟨rfl, rfl⟩
        clear C1
        go_wp2_with fail
        go_roundw
        case rel => exact ⟨k + 1, by omega, by go_num, HN, trivial⟩
        case measure => simp [intOf]; omega
      | false =>
        have HN := Lib.hid (show blkG H Y l = Y l[k] from by rw [← ha.out, blkG_drop hlt, if_neg (by simp [ht])])
        have HL := Lib.hid hlt
        rw [ht] at C1
        generalize hxk : l[k] = x at *
        have HX := Lib.hid hxk
        clear ht ha C ct co hx hxk
        go_wp2_with fail
        refine C1.out.mono ?_
        rintro e w' ⟨rfl, rfl⟩
        clear C1
        go_wp2_with fail
        go_ret
        exact ⟨rfl, _, rfl, .inr ⟨k, rfl, HL.out, HN.out.trans (congrArg Y HX.out.symm)⟩⟩
    · obtain rfl : k = l.length := by omega
      have HN := Lib.hid (show blkG H Y l = false by rw [← ha.out, List.drop_length]; rfl)
      clear ha hlt C ct co hx
      go_wp2_with fail
      go_ret
      exact ⟨rfl, _, rfl, .inl ⟨rfl, HN.out⟩⟩
set_option maxRecDepth 100000 in
set_option maxHeartbeats 1000000 in
theorem blk_go (p : Option Addr) (o : Int) (H Y : Int → Bool) (X : Int → Int) (A : Option Addr) (c : Nat) (l : List Int) (hl : l.length ≤ 1000) (hx : ∀ x ∈ l, I64 x) (w : World) (hS : SlAt encI 1 w A l)
    (hh : ∀ k, I64 k → ∀ W, Below w.heap.size w W → Calls Try.prog 30 #[.pointer p, .int .i64 o, .int .i64 k] W fun e w' => e = .returned (.bool (H k)) ∧ W = w')
    (ho : ∀ k, I64 k → ∀ W, Below w.heap.size w W → Calls Try.prog 17 #[.pointer p, .int .i64 k] W fun e w' => e = .returned (.tuple #[.int .i64 (X k), .bool (Y k)]) ∧ W = w') :
    Calls Try.prog 25 #[.pointer p, .int .i64 o, .slice A l.length c] w fun e w' => e = .returned (.bool (blkG H Y l)) ∧ Below w.heap.size w w' := by
  have hb : Below w.heap.size w ((w.alloc (.cells #[.pointer p] 24)).alloc (.cells #[.int .i64 o] 3)) := belowAlloc (below_al w _) _
  have ct : ((w.alloc (.cells #[.pointer p] 24)).alloc (.cells #[.int .i64 o] 3)).cell? ⟨w.heap.size, 0, none⟩ = some (.pointer p) := by
    rw [World.cell?_alloc_lt _ _ ⟨w.heap.size, 0, none⟩ (by simp)]
    simp
  have co : ((w.alloc (.cells #[.pointer p] 24)).alloc (.cells #[.int .i64 o] 3)).cell? ⟨w.heap.size + 1, 0, none⟩ = some (.int .i64 o) := cell_at1 _ _ _ (by simp)
  have I := Lib.hid (idxK_any (.pointer p) w.heap.size (w.heap.size + 1) o H Y A c l hl hx _ (hS.below hb) ct co fun k hk => hh k hk _ hb)
  have HO := Lib.hid (fun k hk n => ho k hk _ (belowDrawN hb n))
  have HS := Lib.hid (hS.below hb)
  have HB := Lib.hid hb
  have HX := Lib.hid hx
  clear hS hh ho hb hx
  generalize blkG H Y l = r at *
  go_enter Try.func25, Try.ntmps25
  go_wp2_with fail
  generalize ((w.alloc (.cells #[.pointer p] 24)).alloc (.cells #[.int .i64 o] 3)) = w1 at *
  refine I.out.mono ?_
  rintro e w2 ⟨rfl, x, rfl, hx⟩
  clear I
  rcases hx with ⟨rfl, hx⟩ | ⟨k, rfl, hk, hx⟩
  · subst hx
    clear HO
    go_wp2_with fail
    go_ret
    exact ⟨rfl, HB.out⟩
  · obtain ⟨b, off, rfl, _, hc⟩ := HS.out.int hk
    have C1 := Lib.hid (fun n => HO.out l[k] (HX.out _ (List.getElem_mem hk)) n)
    have hk0 : (0 : Int) ≤ (k : Int) := by omega
    have hk1 : (k : Int) < ((l.length : Nat) : Int) := by omega
    have hk2 : ¬ (k : Int) < 0 := by omega
    clear HO HX
    generalize l[k] = x at *
    generalize X x = z at *
    generalize Y x = y at *
    subst hx
    go_wp2_with fail
    go_quiet ((go_at_call 17; refine quietS (C1.out _)))
    all_goals
      go_wp2_with fail
      go_ret
      exact ⟨rfl, by first | exact HB.out | exact belowDraw HB.out | exact belowDrawN HB.out _⟩
theorem slAt_one (W : World) (x : Int) : SlAt encI 1 (W.alloc (.cells #[.int .i64 x] 3)) (some ⟨W.heap.size, 0, none⟩) [x] := by
  refine .inr ⟨W.heap.size, 0, rfl, (Array.getElem?_eq_some_iff.1 (heap_alloc_new W (.cells #[.int .i64 x] 3))).1, fun j y hj i v hi => ?_⟩
  rcases j with _ | j
  · obtain rfl := Option.some.inj hj
    rcases i with _ | i
    · obtain rfl := Option.some.inj hi
      exact cell_of_row _ _ 0 _ _ _ (heap_alloc_new _ _)
    · simp [encI] at hi
  · simp at hj
section
variable {g q : Nat} {S : Nat → Prop} {L : List Int} {w : World}
theorem lkblk_any (o : Int) (_ho : -9223372036854775808 ≤ o ∧ o ≤ 9223372036854775807) (A : Option Addr) (c : Nat) (l : List Int) (hl : l.length ≤ 1000) (hx : ∀ x ∈ l, -9223372036854775808 ≤ x ∧ x ≤ 9223372036854775807) (hS : SlAt encI 1 w A l) (h : LkT g S L q w) :
    Calls Try.prog 25 #[.pointer (some ⟨g, 0, none⟩), .int .i64 o, .slice A l.length c] w fun e w' => e = .returned (.bool (blkL L o l)) ∧ Below w.heap.size w w' := by
  obtain ⟨R, h⟩ := h
  rw [← blkG_L]
  exact blk_go (some ⟨g, 0, none⟩) o _ _ (fun k => max (ownL L k) 0) A c l hl hx w hS (fun k hk W hb => lkholds_x o k hk (h.below hb)) (fun k hk W hb => lkown_x k hk (h.below hb))
theorem lkblk_nil (o : Int) (A : Option Addr) (c : Nat) (l : List Int) (hl : l.length ≤ 1000) (hx : ∀ x ∈ l, -9223372036854775808 ≤ x ∧ x ≤ 9223372036854775807) (w : World) (hS : SlAt encI 1 w A l) : Calls Try.prog 25 #[.pointer none, .int .i64 o, .slice A l.length c] w fun e w' => e = .returned (.bool false) ∧ Below w.heap.size w w' := by
  rw [← blkG_no l]
  exact blk_go none o _ _ (fun _ => 0) A c l hl hx w hS (fun k _ W _ => lkholds_nil o k W) (fun k _ W _ => lkown_nilx k W)
end
end Go.Proofs.Ytpfplniokjkcbaa
