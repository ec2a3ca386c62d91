/- reply: Parse. -/
import Derived.Test.YtpoejnajnaolpaaGreatDoorRpIt
import Derived.Test.YtpoejnajnaolpaaGreatDoorRpRun3
import Derived.Deep.Cut
namespace Go.Proofs.YtpoejnajnaolpaaGreatDoor
open Go.RowKit

set_option maxRecDepth 100000 in
theorem enters_stF (s : St) (args : Array Value) (w : World) : (callFunc (stF s) args).run Tryz.prog w = .ok (.enter (stF s) args) w := by
  unfold stF
  cases s
  · kernel_rfl
  · kernel_rfl
  · kernel_rfl
  · kernel_rfl
  · kernel_rfl
  · kernel_rfl
  · kernel_rfl
theorem nil_nil (w : World) : (binOp .neq 52 .nilFunc .nilFunc).run Tryz.prog w = .ok (.bool false) w := by kernel_rfl
theorem fn_nil (f : Fn) (a b : Array Value) (w : World) : (binOp .neq 52 (.func f a b) .nilFunc).run Tryz.prog w = .ok (.bool true) w := by kernel_rfl
theorem cellsR {bb bp c kb : Nat} {A Ab : Option Addr} {l : List UInt8} {r : RI} {wh : Bool} {w : World} (h : Rp bb bp A c l r Ab kb wh w) : w.cell? ⟨bp, 1, none⟩ = some (.int .i64 r.kind) ∧ w.cell? ⟨bp, 2, none⟩ = some (.int .u32 (r.n : Int)) ∧ w.cell? ⟨bp, 3, none⟩ = some (.string ⟨r.tag.toArray⟩) ∧ w.cell? ⟨bp, 4, none⟩ = some (.int .i64 r.status) ∧ w.cell? ⟨bp, 5, none⟩ = some (.string ⟨r.text.toArray⟩) ∧ w.cell? ⟨bp, 6, none⟩ = some (.int .i64 r.items) ∧ w.cell? ⟨bp, 7, none⟩ = some (.int .u8 (r.flags : Int)) ∧ w.cell? ⟨bp, 8, none⟩ = some (.int .u32 (r.uid : Int)) ∧ w.cell? ⟨bp, 9, none⟩ = some (.int .u32 (r.size : Int)) ∧ w.cell? ⟨bp, 10, none⟩ = some (.slice Ab r.body.length kb) :=
  ⟨cell_of_row _ _ 1 _ _ _ h.blk, cell_of_row _ _ 2 _ _ _ h.blk, cell_of_row _ _ 3 _ _ _ h.blk, cell_of_row _ _ 4 _ _ _ h.blk, cell_of_row _ _ 5 _ _ _ h.blk, cell_of_row _ _ 6 _ _ _ h.blk, cell_of_row _ _ 7 _ _ _ h.blk, cell_of_row _ _ 8 _ _ _ h.blk, cell_of_row _ _ 9 _ _ _ h.blk, cell_of_row _ _ 10 _ _ _ h.blk⟩
theorem step_any (s : St) (hs : s ≠ .fin) (bb bp c kb : Nat) (A Ab : Option Addr) (l : List UInt8) (r : RI) (hl : l.length ≤ 1000000) (w : World) (henv : ∀ W, Rk bb bp w W → Env W) (h : Rp bb bp A c l r Ab kb false w) :
    Calls Tryz.prog (stF s) #[.pointer (some ⟨bp, 0, none⟩)] w fun e w' => SPo bb bp (nextP s l r) e w' ∧ Rk bb bp w w' := by
  cases s with
  | begin => exact begin_any bb bp c kb A Ab l r w h
  | untagged => exact untagged_any bb bp c kb A Ab l r w h
  | number => exact number_st bb bp c kb A Ab l r hl w henv h
  | items => exact items_st bb bp c kb A Ab l r hl w henv h
  | text => exact text_st bb bp c kb A Ab l r hl w h
  | tag => exact tag_st bb bp c kb A Ab l r hl w h
  | fin => exact absurd rfl hs
theorem cho_len {cs : List Cw} {l : List UInt8} {r : RI} {p : St × List UInt8 × RI} (h : choP cs l r = some p) : p.2.1.length ≤ l.length := by
  obtain ⟨x, _, e, _, _⟩ := cho_some h
  rw [e, List.length_append]
  omega
theorem itR_len : ∀ (n : Nat) {l : List UInt8} {r : RI} {p : List UInt8 × RI}, itR n l r = some p → p.1.length ≤ l.length
  | 0, l, r, p, h => by
    obtain rfl := Option.some.inj h
    exact Nat.le_refl _
  | n + 1, l, r, p, h => by
    simp only [itR, Option.bind_eq_some_iff] at h
    obtain ⟨⟨l1, r1⟩, h1, h2⟩ := h
    have a1 : l1.length ≤ l.length := by
      rcases item_some h1 with ⟨rfl, _⟩ | ⟨m, q, rfl, hq, _⟩
      · exact Nat.le_refl _
      · have := read_len hq
        rw [List.length_append]
        omega
    exact Nat.le_trans (itR_len n h2) a1
theorem next_len {s : St} {l : List UInt8} {r : RI} {p : St × List UInt8 × RI} (h : nextP s l r = some p) : p.2.1.length ≤ l.length := by
  have dr : ∀ n, (l.drop n).length ≤ l.length := fun n => by rw [List.length_drop]; omega
  cases s with
  | begin => exact cho_len h
  | untagged => exact cho_len h
  | number =>
    simp only [nextP, Option.bind_eq_some_iff] at h
    obtain ⟨u, -, h⟩ := h
    exact Nat.le_trans (cho_len h) (dr _)
  | items =>
    simp only [nextP, Option.bind_eq_some_iff] at h
    obtain ⟨q, hq, h⟩ := h
    split at h
    · obtain rfl := Option.some.inj h
      have := itR_len 4 hq
      show (q.1.drop 1).length ≤ _
      rw [List.length_drop]
      omega
    · cases h
  | text =>
    simp only [nextP] at h
    split at h
    · cases h
    · obtain rfl := Option.some.inj h
      exact dr _
  | tag =>
    simp only [nextP] at h
    split at h
    · cases h
    · obtain ⟨s, _, e, _, _⟩ := sta_some h
      have := dr (l.takeWhile tgB).length
      rw [e, List.length_append] at this
      omega
  | fin => cases h

set_option maxRecDepth 100000 in
set_option maxHeartbeats 2000000 in
theorem newReader_any (B c n : Nat) (A : Option Addr) (l : List UInt8) (hn : l.length = n) (w : World) (hA : ByAt B w A c l) :
    Calls Tryz.prog 26 #[.slice A n c] w fun e w' => e = .returned (.pointer (some ⟨w.heap.size + 1, 0, none⟩)) ∧ Hid (Rp w.heap.size (w.heap.size + 1) A c l rsZero none 0 false w') ∧ Below w.heap.size w w' := by
  have hmf : ∀ (fn : Fn) (first cap : Array Value) (w : World), (Instr.makeFunc fn first cap).run Tryz.prog w = .ok (.func fn first cap) w := fun _ _ _ _ => rfl
  have HP := Lib.hid (show Rp w.heap.size (w.heap.size + 1) A c l rsZero none 0 false ((w.alloc (.cells #[.slice A n c] 22)).alloc (.cells #[.func (Fn.func 36) #[] #[.pointer (some ⟨w.heap.size, 0, none⟩)], .int .i64 0, .int .u32 0, .string ⟨#[]⟩, .int .i64 0, .string ⟨#[]⟩, .int .i64 0, .int .u8 0, .int .u32 0, .int .u32 0, .slice none 0 0, .bool false] 55)) from by
    have b1 := below_al w (.cells #[.slice A n c] 22)
    have b2 := below_al (w.alloc (.cells #[.slice A n c] 22)) (.cells #[.func (Fn.func 36) #[] #[.pointer (some ⟨w.heap.size, 0, none⟩)], .int .i64 0, .int .u32 0, .string ⟨#[]⟩, .int .i64 0, .string ⟨#[]⟩, .int .i64 0, .int .u8 0, .int .u32 0, .int .u32 0, .slice none 0 0, .bool false] 55)
    have h2 := heap_alloc_new (w.alloc (.cells #[.slice A n c] 22)) (.cells #[.func (Fn.func 36) #[] #[.pointer (some ⟨w.heap.size, 0, none⟩)], .int .i64 0, .int .u32 0, .string ⟨#[]⟩, .int .i64 0, .string ⟨#[]⟩, .int .i64 0, .int .u8 0, .int .u32 0, .int .u32 0, .slice none 0 0, .bool false] 55)
    rw [World.size_alloc] at h2
    refine ⟨?_, h2, by omega, hA.here.below (below_next b1 b2), World.ownsRow_nil _ _ _ _⟩
    rw [hn]
    exact (b2.block w.heap.size (by simp)).trans (heap_alloc_new w _))
  have HB := Lib.hid (below_2box w (.cells #[.slice A n c] 22) (.cells #[.func (Fn.func 36) #[] #[.pointer (some ⟨w.heap.size, 0, none⟩)], .int .i64 0, .int .u32 0, .string ⟨#[]⟩, .int .i64 0, .string ⟨#[]⟩, .int .i64 0, .int .u8 0, .int .u32 0, .int .u32 0, .slice none 0 0, .bool false] 55))
  clear hA hn
  go_enter Tryz.func26, Tryz.ntmps26
  go_wp2_with fail
  go_ret
  exact ⟨rfl, HP, HB.out⟩

theorem newReader_ex (B c n : Nat) (A : Option Addr) (l : List UInt8) (hn : l.length = n) (w : World) (hA : ByAt B w A c l) :
    Calls Tryz.prog 26 #[.slice A n c] w fun e w' => ∃ bb bp, e = .returned (.pointer (some ⟨bp, 0, none⟩)) ∧ w.heap.size ≤ bb ∧ Hid (Rp bb bp A c l rsZero none 0 false w') ∧ Below w.heap.size w w' :=
  (newReader_any B c n A l hn w hA).mono fun _ _ ⟨a, b, c⟩ => ⟨_, _, a, Nat.le_refl _, b, c⟩

theorem new_own {w : World} {base : Nat} {e : TypeId} {k n c m : Nat} {A : Option Addr} {xs : List Value} (h : w.ownsRow base e k (.slice A n c) m xs) : ∀ b off s, A = some ⟨b, off, s⟩ → base ≤ b := by
  intro b off s e
  subst e
  exact (h.lt b rfl).1
/-- What Parse returns. -/
def PaPo (n0 : Nat) (l : List UInt8) (x : Int) (e : Ending) (w' : World) : Prop :=
  (∃ r A' c' m, (0 ≤ x ∧ x < (l.length : Int)) ∧ RpAt (l.drop x.toNat) r ∧ m = x.toNat + (rsForm r).length ∧ m ≤ l.length ∧ e = .returned (.tuple #[rsV r A' c', .int .i64 ((m : Nat) : Int), .bool true]) ∧ ByAt w'.heap.size w' A' c' r.body ∧ ∀ b off s, A' = some ⟨b, off, s⟩ → n0 ≤ b) ∨
  ((0 ≤ x ∧ x < (l.length : Int) → ∀ r, ¬ RpAt (l.drop x.toNat) r) ∧ e = .returned (.tuple #[rsV rsZero none 0, .int .i64 0, .bool false]))

set_option maxRecDepth 100000 in
set_option maxHeartbeats 8000000 in
theorem parse_any (B c n : Nat) (A : Option Addr) (l : List UInt8) (x : Int) (h1 : -9223372036854775808 ≤ x) (h2 : x ≤ 9223372036854775807) (hn : l.length = n) (hl : n ≤ 1000000) (w : World) (henv : Env w) (hA : ByAt B w A c l) :
    Calls Tryz.prog 10 #[.slice A n c, .int .i64 x] w fun e w' => PaPo w.heap.size l x e w' ∧ Below w.heap.size w w' := by
  have HB0 := Lib.hid (below_al w (.cells #[.int .i64 0, .int .u32 0, .string ⟨#[]⟩, .int .i64 0, .string ⟨#[]⟩, .int .i64 0, .int .u8 0, .int .u32 0, .int .u32 0, .slice none 0 0] 27))
  by_cases hx0 : x < 0
  · have HX := Lib.hid (show ¬ (0 ≤ x ∧ x < (l.length : Int)) by omega)
    have g1 : decide (x < 0) = true := by simp; omega
    clear hA henv hx0
    go_enter Tryz.func10, Tryz.ntmps10
    go_wp2_with fail
    refine bodyPost_ret (v := .tuple #[rsV rsZero none 0, .int .i64 0, .bool false]) (by simp [results, Tryz.results10, go_sem]; rfl) rfl ⟨.inr ⟨fun h => absurd h HX.out, rfl⟩, HB0.out⟩
  · obtain ⟨k, rfl⟩ : ∃ k : Nat, x = k := ⟨x.toNat, by omega⟩
    have g1 : decide ((k : Int) < 0) = false := by simp
    by_cases hkn : n ≤ k
    · have HX := Lib.hid (show ¬ (0 ≤ (k : Int) ∧ (k : Int) < (l.length : Int)) by omega)
      have g2 : decide ((n : Int) ≤ (k : Int)) = true := by simp; omega
      have g3 : decide (n ≤ k) = true := by simp; omega
      clear hA henv hx0
      go_enter Tryz.func10, Tryz.ntmps10
      go_wp2_with fail
      refine bodyPost_ret (v := .tuple #[rsV rsZero none 0, .int .i64 0, .bool false]) (by simp [results, Tryz.results10, go_sem]; rfl) rfl ⟨.inr ⟨fun h => absurd h HX.out, rfl⟩, HB0.out⟩
    · have HK := Lib.hid hkn
      have g2 : decide ((n : Int) ≤ (k : Int)) = false := by simp; omega
      have g3 : decide (n ≤ k) = false := by simp; omega
      have hsl := fun W => slice_l A n c k (by omega) W
      have hse := fun x lo hi mx W => sliceAt_eq x lo hi mx W
      have hkl : k ≤ l.length := by omega
      have NR := Lib.hid (newReader_ex w.heap.size (c - k) (n - k) (offA A c k) (l.drop k) (by rw [List.length_drop]; omega) (w.alloc (.cells #[.int .i64 0, .int .u32 0, .string ⟨#[]⟩, .int .i64 0, .string ⟨#[]⟩, .int .i64 0, .int .u8 0, .int .u32 0, .int .u32 0, .slice none 0 0] 27)) ((hA.drop hkl).here.below HB0.out))
      have HZ0 := Lib.hid (heap_alloc_new w (.cells #[.int .i64 0, .int .u32 0, .string ⟨#[]⟩, .int .i64 0, .string ⟨#[]⟩, .int .i64 0, .int .u8 0, .int .u32 0, .int .u32 0, .slice none 0 0] 27))
      have hsz := World.size_alloc w (.cells #[.int .i64 0, .int .u32 0, .string ⟨#[]⟩, .int .i64 0, .string ⟨#[]⟩, .int .i64 0, .int .u8 0, .int .u32 0, .int .u32 0, .slice none 0 0] 27)
      have HE := Lib.hid (fun W (hb : Below w.heap.size w W) => henv.below hb)
      obtain ⟨R, hRR⟩ : ∃ R, runP .begin (l.drop k) rsZero = R := ⟨_, rfl⟩
      have HRR := Lib.hid hRR
      have HN := Lib.hid hn
      rw [hsz] at NR
      clear hRR henv hA hn hkl hx0 hkn
      go_enter Tryz.func10, Tryz.ntmps10
      go_wp2_with fail
      refine NR.out.mono ?_
      rintro e w1 ⟨bb, bp, rfl, hbb, hR, hb1⟩
      have HB1 := Lib.hid (below_next HB0.out (hb1.mono (by rw [hsz]; omega)))
      have HZ1 := Lib.hid ((hb1.block w.heap.size (by omega)).trans HZ0.out)
      have HLT := Lib.hid hR.out.lt
      have HS1 := Lib.hid hR.out.here
      have HBK := Lib.hid (fun W (hk : Rk bb bp w1 W) => HB1.out.trans (hk.below (B := w.heap.size) (by omega) HLT.out (by have := HS1.out.1; omega)))
      have HEV := Lib.hid (fun W (hk : Rk bb bp w1 W) => HE.out W (HBK.out W hk))
      have HZK := Lib.hid (fun W (hk : Rk bb bp w1 W) => hk.at_ HZ1.out (by omega) (by have := HLT.out; omega))
      clear hb1 NR HZ0 hsl hse g1 g2 g3 hsz
      have hmf : ∀ (fn : Fn) (first cap : Array Value) (w : World), (Instr.makeFunc fn first cap).run Tryz.prog w = .ok (.func fn first cap) w := fun _ _ _ _ => rfl
      go_wp2_with fail
      go_loopg [8] 7 (fun gg v wr => (∃ (s : St) (l' : List UInt8) (r' : RI) (A' : Option Addr) (c' : Nat) (Ab' : Option Addr) (kb' : Nat), v = .func (Fn.func (stF s)) #[.pointer (some ⟨bp, 0, none⟩)] #[] ∧ rank s + 1 ≤ gg ∧ Hid (l'.length ≤ 1000000) ∧ Hid (runP s l' r' = R) ∧ Hid (Rp bb bp A' c' l' r' Ab' kb' false wr) ∧ Hid (Rk bb bp w1 wr)) ∨ (∃ (l' : List UInt8) (r' : RI) (A' : Option Addr) (c' : Nat) (Ab' : Option Addr) (kb' : Nat) (q : Bool), v = .nilFunc ∧ Hid ((q = false → R = none) ∧ (q = true → R = some (r', l'))) ∧ Hid (Rp bb bp A' c' l' r' Ab' kb' q wr) ∧ Hid (Rk bb bp w1 wr)))
      case atStart => exact .inl ⟨.begin, l.drop k, rsZero, _, _, _, _, rfl, by decide, Lib.hid (by rw [List.length_drop, HN.out]; omega), HRR, hR, Lib.hid (Rk.refl _ _ _)⟩
      case round =>
      clear hR
      have hnn := nil_nil
      have hfn := fn_nil
      rcases hrel with ⟨s, l', r', A', c', Ab', kb', rfl, hgg, hL, hRn, hR, hK⟩ | ⟨l', r', A', c', Ab', kb', q, rfl, hQ, hR, hK⟩
      · by_cases hs : s = .fin
        · subst hs
          have FC := Lib.hid (fin_any bb bp c' kb' A' Ab' l' r' wr hR.out)
          have HQ := Lib.hid (show ([13, 10].isPrefixOf l' = false → R = none) ∧ ([13, 10].isPrefixOf l' = true → R = some (r', cutW [13, 10] l')) by
            rw [← hRn.out, runP_fin]
            refine ⟨fun e => ?_, fun e => ?_⟩
            · unfold endP
              rw [if_neg (by rw [e]; decide)]
            · unfold endP
              rw [if_pos e, cutW_t e]
              rfl)
          generalize [13, 10].isPrefixOf l' = q at *
          generalize cutW [13, 10] l' = l2 at *
          have hst : stF .fin = 56 := rfl
          go_wp2_with fail
          refine FC.out.mono ?_
          rintro e w2 ⟨rfl, ⟨A2, c2, h2⟩, k2⟩
          have K2 := Lib.hid (hK.out.trans k2)
          clear k2 FC hst
          go_wp2_with fail
          go_roundg 0
          case measure => omega
          case rel => exact .inr ⟨l2, r', A2, c2, Ab', kb', q, rfl, HQ, h2, K2⟩
        · have ST := Lib.hid (step_any s hs bb bp c' kb' A' Ab' l' r' hL.out wr (fun W hW => HEV.out W (hK.out.trans hW)) hR.out)
          have HEN := fun args W => enters_stF s args W
          have HNX := Lib.hid (fun p (h : nextP s l' r' = some p) => show rank p.1 < rank s ∧ p.2.1.length ≤ 1000000 ∧ runP p.1 p.2.1 p.2.2 = R by
            refine ⟨next_rank h, Nat.le_trans (next_len h) hL.out, ?_⟩
            rw [← hRn.out, runP_next hs, h]
            rfl)
          have HNN := Lib.hid (fun (h : nextP s l' r' = none) => show R = none by
            rw [← hRn.out, runP_next hs, h]
            rfl)
          generalize hF : stF s = F at *
          clear hF
          go_wp2_with fail
          refine ST.out.mono ?_
          rintro e w2 ⟨hp, k2⟩
          have K2 := Lib.hid (hK.out.trans k2)
          unfold SPo at hp
          rcases hp with ⟨s2, l2, r2, ho, rfl, A2, c2, Ab2, kb2, h2⟩ | ⟨ho, rfl, A2, c2, l2, r2, Ab2, kb2, h2⟩
          · obtain ⟨a1, a2, a3⟩ := HNX.out _ ho
            have HL2 := Lib.hid a2
            have HR2 := Lib.hid a3
            have hrk : rank s2 < rank s := a1
            clear k2 ho ST HNX HNN a2 a3 a1 HEN
            go_wp2_with fail
            go_roundg (rank s2 + 1)
            case measure => omega
            case rel => exact .inl ⟨s2, l2, r2, A2, c2, Ab2, kb2, rfl, Nat.le_refl _, HL2, HR2, h2, K2⟩
          · have HN2 := Lib.hid (HNN.out ho)
            clear k2 ho ST HNX HNN HEN
            go_wp2_with fail
            go_roundg 0
            case measure => omega
            case rel => exact .inr ⟨l2, r2, A2, c2, Ab2, kb2, false, rfl, Lib.hid ⟨fun _ => HN2.out, fun h => (by cases h)⟩, h2, K2⟩
      · have c11 : wr.cell? ⟨bp, 11, none⟩ = some (.bool q) := cell_of_row _ _ 11 _ _ _ hR.out.blk
        cases q with
        | false =>
          have HX := Lib.hid (show ∀ r, ¬ RpAt (l.drop k) r from run_at.2 (HRR.out.trans (hQ.out.1 rfl)))
          have HZW := Lib.hid (HZK.out wr hK.out)
          have HBW := Lib.hid (HBK.out wr hK.out)
          obtain ⟨d0, d1, d2, d3, d4, d5, d6, d7, d8, d9⟩ := cells10 HZW.out
          have g0 := Joins.unfrozen_of_block HZW.out 0
          have g1 := Joins.unfrozen_of_block HZW.out 1
          have g2 := Joins.unfrozen_of_block HZW.out 2
          have g3 := Joins.unfrozen_of_block HZW.out 3
          have g4 := Joins.unfrozen_of_block HZW.out 4
          have g5 := Joins.unfrozen_of_block HZW.out 5
          have g6 := Joins.unfrozen_of_block HZW.out 6
          have g7 := Joins.unfrozen_of_block HZW.out 7
          have g8 := Joins.unfrozen_of_block HZW.out 8
          have g9 := Joins.unfrozen_of_block HZW.out 9
          clear HZK HBK HEV
          go_wp2_with fail
          change bodyPost _ _ _ _ _ (stR wr w.heap.size (.int .i64 0) (.int .u32 0) (.string ⟨#[]⟩) (.int .i64 0) (.string ⟨#[]⟩) (.int .i64 0) (.int .u8 0) (.int .u32 0) (.int .u32 0) (.slice none 0 0))
          have hq := stR_block HZW.out (.int .i64 0) (.int .u32 0) (.string ⟨#[]⟩) (.int .i64 0) (.string ⟨#[]⟩) (.int .i64 0) (.int .u8 0) (.int .u32 0) (.int .u32 0) (.slice none 0 0)
          have HG := Lib.hid (stR_grown wr w.heap.size (.int .i64 0) (.int .u32 0) (.string ⟨#[]⟩) (.int .i64 0) (.string ⟨#[]⟩) (.int .i64 0) (.int .u8 0) (.int .u32 0) (.int .u32 0) (.slice none 0 0))
          have HB9 := Lib.hid (below_st HBW.out HG.out (Nat.le_refl _))
          clear d0 d1 d2 d3 d4 d5 d6 d7 d8 d9 g0 g1 g2 g3 g4 g5 g6 g7 g8 g9
          generalize stR wr w.heap.size (.int .i64 0) (.int .u32 0) (.string ⟨#[]⟩) (.int .i64 0) (.string ⟨#[]⟩) (.int .i64 0) (.int .u8 0) (.int .u32 0) (.int .u32 0) (.slice none 0 0) = w9 at *
          obtain ⟨p0, p1, p2, p3, p4, p5, p6, p7, p8, p9⟩ := cells10 hq
          refine bodyPost_ret (v := .tuple #[rsV rsZero none 0, .int .i64 0, .bool false]) (by simp [results, Tryz.results10, go_sem, p0, p1, p2, p3, p4, p5, p6, p7, p8, p9]; rfl) rfl ⟨.inr ⟨fun _ => HX.out, rfl⟩, HB9.out⟩
        | true =>
          have HX := Lib.hid (run_at.1 r' l' (HRR.out.trans (hQ.out.2 rfl)))
          have HLE := Lib.hid (show k + (rsForm r').length + l'.length = n by
            have := congrArg List.length HX.out.2
            have hk9 := HK.out
            rw [List.length_drop, HN.out, List.length_append] at this
            omega)
          have HBD := Lib.hid (fun W (h : Rp bb bp A' c' l' r' Ab' kb' true W) => ByAt.of_own h.body)
          obtain ⟨y, hy⟩ : ∃ y, l'.length = y := ⟨_, rfl⟩
          have R0 := Lib.hid (fun W (hW : Below wr.heap.size wr W) => show Calls Tryz.prog 36 #[.int .i64 0, .pointer (some ⟨bb, 0, none⟩)] W fun e w' => e = .returned (.slice A' y c') ∧ Hid (Rp bb bp A' c' l' r' Ab' kb' true w') ∧ Hid (w'.heap[w.heap.size]? = some (.cells #[.int .i64 0, .int .u32 0, .string ⟨#[]⟩, .int .i64 0, .string ⟨#[]⟩, .int .i64 0, .int .u8 0, .int .u32 0, .int .u32 0, .slice none 0 0] 27 (0, 0))) ∧ Hid (Below w.heap.size w w') from
            (rest0_any bb bp c' kb' A' Ab' l' y r' true hy W (hR.out.grow hW)).mono fun e w' ⟨a1, a2, a3⟩ => ⟨a1, a2, HZK.out w' ((hK.out.trans (Rk.of_below hW)).trans a3), HBK.out w' ((hK.out.trans (Rk.of_below hW)).trans a3)⟩)
          rw [hy] at HLE
          have hyn : y ≤ n := by have := HLE.out; omega
          obtain ⟨m, hm⟩ : ∃ m, k + (rsForm r').length = m := ⟨_, rfl⟩
          have hwr : IntKind.i64.wrap ((n : Int) - (y : Int)) = ((m : Nat) : Int) := by
            have := HLE.out
            rw [IntWalk.i64_in _ (by omega)]
            omega
          have HIN := Lib.hid (show 0 ≤ (k : Int) ∧ (k : Int) < (l.length : Int) by have := HK.out; rw [HN.out]; omega)
          have HME := Lib.hid (show m = ((k : Int)).toNat + (rsForm r').length from hm.symm)
          have HML := Lib.hid (show m ≤ l.length by have := HLE.out; rw [HN.out]; omega)
          clear hm
          have c0 := hR.out.cells.1
          obtain ⟨x1, x2, x3, x4, x5, x6, x7, x8, x9, x10⟩ := cellsR hR.out
          clear hy HZK HBK HEV
          go_upto_region 9 with (fail)
          clear c11
          generalize hv2 : ByteArray.mk r'.tag.toArray = v2 at *
          generalize hv4 : ByteArray.mk r'.text.toArray = v4 at *
          go_region_with (first
            | (go_at_call 36; refine (R0.out _ (by repeat (first | assumption | exact Below.refl _ _ | refine Below.drew ?_ ))).mono ?_; rintro e w3 ⟨rfl, h3, Z3, B3⟩; obtain ⟨x1', x2', x3', x4', x5', x6', x7', x8', x9', x10'⟩ := cellsR h3.out; rw [hv2] at x3'; rw [hv4] at x5'; obtain ⟨d0, d1, d2, d3, d4, d5, d6, d7, d8, d9⟩ := cells10 Z3.out; have g0 := Joins.unfrozen_of_block Z3.out 0; have g1 := Joins.unfrozen_of_block Z3.out 1; have g2 := Joins.unfrozen_of_block Z3.out 2; have g3 := Joins.unfrozen_of_block Z3.out 3; have g4 := Joins.unfrozen_of_block Z3.out 4; have g5 := Joins.unfrozen_of_block Z3.out 5; have g6 := Joins.unfrozen_of_block Z3.out 6; have g7 := Joins.unfrozen_of_block Z3.out 7; have g8 := Joins.unfrozen_of_block Z3.out 8; have g9 := Joins.unfrozen_of_block Z3.out 9))
          all_goals
            clear R0
            go_wp2_with fail
            change bodyPost _ _ _ _ _ (stR w3 w.heap.size (.int .i64 r'.kind) (.int .u32 (r'.n : Int)) (.string v2) (.int .i64 r'.status) (.string v4) (.int .i64 r'.items) (.int .u8 (r'.flags : Int)) (.int .u32 (r'.uid : Int)) (.int .u32 (r'.size : Int)) (.slice Ab' r'.body.length kb'))
            have hq := stR_block Z3.out (.int .i64 r'.kind) (.int .u32 (r'.n : Int)) (.string v2) (.int .i64 r'.status) (.string v4) (.int .i64 r'.items) (.int .u8 (r'.flags : Int)) (.int .u32 (r'.uid : Int)) (.int .u32 (r'.size : Int)) (.slice Ab' r'.body.length kb')
            have HG := Lib.hid (stR_grown w3 w.heap.size (.int .i64 r'.kind) (.int .u32 (r'.n : Int)) (.string v2) (.int .i64 r'.status) (.string v4) (.int .i64 r'.items) (.int .u8 (r'.flags : Int)) (.int .u32 (r'.uid : Int)) (.int .u32 (r'.size : Int)) (.slice Ab' r'.body.length kb'))
            have HB9 := Lib.hid (below_st B3.out HG.out (Nat.le_refl _))
            have HBY := Lib.hid (ByAt.of_own (own_past9 h3.out.body HG.out (by have := h3.out.lt; omega)))
            have HNW := Lib.hid (fun b off s (e : Ab' = some ⟨b, off, s⟩) => Nat.le_trans (show w.heap.size ≤ bp + 1 by have := h3.out.lt; omega) (new_own h3.out.body b off s e))
            clear d0 d1 d2 d3 d4 d5 d6 d7 d8 d9 g0 g1 g2 g3 g4 g5 g6 g7 g8 g9 x1' x2' x3' x4' x5' x6' x7' x8' x9' x10' x1 x2 x3 x4 x5 x6 x7 x8 x9 x10
            generalize stR w3 w.heap.size (.int .i64 r'.kind) (.int .u32 (r'.n : Int)) (.string v2) (.int .i64 r'.status) (.string v4) (.int .i64 r'.items) (.int .u8 (r'.flags : Int)) (.int .u32 (r'.uid : Int)) (.int .u32 (r'.size : Int)) (.slice Ab' r'.body.length kb') = w9 at *
            obtain ⟨p0, p1, p2, p3, p4, p5, p6, p7, p8, p9⟩ := cells10 hq
            refine bodyPost_ret (v := .tuple #[.agg #[.int .i64 r'.kind, .int .u32 (r'.n : Int), .string v2, .int .i64 r'.status, .string v4, .int .i64 r'.items, .int .u8 (r'.flags : Int), .int .u32 (r'.uid : Int), .int .u32 (r'.size : Int), .slice Ab' r'.body.length kb'], .int .i64 ((m : Nat) : Int), .bool true]) (by simp [results, Tryz.results10, go_sem, p0, p1, p2, p3, p4, p5, p6, p7, p8, p9]) rfl ⟨.inl ⟨r', Ab', kb', m, HIN.out, HX.out.1, HME.out, HML.out, ?_, HBY.out, HNW.out⟩, HB9.out⟩
            unfold rsV
            rw [hv2, hv4]
end Go.Proofs.YtpoejnajnaolpaaGreatDoor
