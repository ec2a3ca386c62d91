/- reply: the steps. -/
import Derived.Test.YtpoejnajnaolpaaGreatDoorRpCh
import Derived.Test.YtpoejnajnaolpaaGreatDoorRpSp
import Derived.Test.YtpoejnajnaolpaaGreatDoorRpRun
import Derived.Test.YtpoejnajnaolpaaGreatDoorGf
import Derived.Test.YtpoejnajnaolpaaGreatDoorGc
import Derived.Deep.Cut
namespace Go.Proofs.YtpoejnajnaolpaaGreatDoor
open Go.RowKit

/-- The method of a step. -/
def stF : St → FuncId
  | .begin => 27
  | .untagged => 38
  | .number => 57
  | .items => 83
  | .text => 39
  | .tag => 40
  | .fin => 56
/-- What a step returns. -/
def SPo (bb bp : Nat) (o : Option (St × List UInt8 × RI)) (e : Ending) (w' : World) : Prop :=
  (∃ s l r, o = some (s, l, r) ∧ e = .returned (.func (Fn.func (stF s)) #[.pointer (some ⟨bp, 0, none⟩)] #[]) ∧ ∃ A c Ab kb, Hid (Rp bb bp A c l r Ab kb false w')) ∨
  (o = none ∧ e = .returned .nilFunc ∧ ∃ A c l r Ab kb, Hid (Rp bb bp A c l r Ab kb false w'))
theorem spo_val {bb bp : Nat} {o : Option (St × List UInt8 × RI)} {e : Ending} {w' : World} (h : SPo bb bp o e w') : ∃ v, e = .returned v := by
  rcases h with ⟨_, _, _, _, he, _⟩ | ⟨_, he, _⟩
  · exact ⟨_, he⟩
  · exact ⟨_, he⟩
def toCh (x : Cw) : Ch := ⟨x.word, x.kind, stF x.st⟩
theorem spo_of {bb bp : Nat} {cs : List Cw} {l : List UInt8} {r : RI} {Ab : Option Addr} {kb : Nat} {e : Ending} {w' : World} (h : ChPost bb bp (cs.map toCh) l r Ab kb false e w') : SPo bb bp (choP cs l r) e w' := by
  unfold ChPost at h
  rw [List.find?_map] at h
  unfold choP
  have e0 : ((fun x : Ch => x.word.isPrefixOf l) ∘ toCh) = fun x : Cw => x.word.isPrefixOf l := rfl
  rw [e0] at h
  rcases h with ⟨x, hx, he, A', c', hR⟩ | ⟨hx, he, A', c', hR⟩
  · rw [Option.map_eq_some_iff] at hx
    obtain ⟨y, hy, rfl⟩ := hx
    exact .inl ⟨y.st, l.drop y.word.length, { r with kind := y.kind }, by rw [hy]; rfl, he, A', c', Ab, kb, hR⟩
  · rw [Option.map_eq_none_iff] at hx
    exact .inr ⟨by rw [hx]; rfl, he, A', c', l, r, Ab, kb, hR⟩

set_option maxRecDepth 100000 in
set_option maxHeartbeats 2000000 in
theorem begin_any (bb bp c kb : Nat) (A Ab : Option Addr) (l : List UInt8) (r : RI) (w : World) (h : Rp bb bp A c l r Ab kb false w) :
    Calls Tryz.prog 27 #[.pointer (some ⟨bp, 0, none⟩)] w fun e w' => SPo bb bp (choP csB l r) e w' ∧ Rk bb bp w w' := by
  have hmf : ∀ (fn : Fn) (first cap : Array Value) (w : World), (Instr.makeFunc fn first cap).run Tryz.prog w = .ok (.func fn first cap) w := fun _ _ _ _ => rfl
  have hz := h.here
  have CH := Lib.hid (fun (W : World) (hb : Below w.heap.size w W) (hg : W.heap[w.heap.size]? = some (.cells (flatL (encCh bp) (csB.map toCh)).toArray 68 (0, 0))) =>
    choose_any (csB.map toCh) 3 w.heap.size bb bp c kb A Ab l r false rfl (by omega) W (h.grow hb) (Array.getElem?_eq_some_iff.1 hg).1 (by omega) (by omega) (chAt_of hg))
  have HB := Lib.hid (fun o => below_al w o)
  clear h hz
  go_enter Tryz.func27, Tryz.ntmps27
  go_wp2_with fail
  refine (CH.out _ (HB.out _) (heap_alloc_new _ _)).mono ?_
  rintro e w1 ⟨hp, k1⟩
  obtain ⟨v, rfl⟩ := spo_val (spo_of hp)
  have HP := Lib.hid (spo_of hp)
  have K1 := Lib.hid ((Rk.of_below (HB.out _)).trans k1)
  clear hp k1 CH
  go_wp2_with fail
  go_ret
  exact ⟨HP.out, K1.out⟩

theorem listS : (ByteArray.mk #[70, 76, 65, 71, 83, 32] ++ ByteArray.mk (listL 31).toArray) = ByteArray.mk ([70, 76, 65, 71, 83, 32] ++ listL 31).toArray := by decide +kernel
set_option maxRecDepth 100000 in
set_option maxHeartbeats 2000000 in
theorem untagged_any (bb bp c kb : Nat) (A Ab : Option Addr) (l : List UInt8) (r : RI) (w : World) (h : Rp bb bp A c l r Ab kb false w) :
    Calls Tryz.prog 38 #[.pointer (some ⟨bp, 0, none⟩)] w fun e w' => SPo bb bp (choP csU l r) e w' ∧ Rk bb bp w w' := by
  have hmf : ∀ (fn : Fn) (first cap : Array Value) (w : World), (Instr.makeFunc fn first cap).run Tryz.prog w = .ok (.func fn first cap) w := fun _ _ _ _ => rfl
  have FL := Lib.hid (flist_any 31 (by omega) w)
  have HR := Lib.hid h
  have hls := listS
  have CH := Lib.hid (fun (W V : World) (hw : Rp bb bp A c l r Ab kb false W) (hb : Below W.heap.size W V) (hg : V.heap[W.heap.size]? = some (.cells (flatL (encCh bp) (csU.map toCh)).toArray 68 (0, 0))) =>
    choose_any (csU.map toCh) 5 W.heap.size bb bp c kb A Ab l r false rfl (by omega) V (hw.grow hb) (Array.getElem?_eq_some_iff.1 hg).1 (by have := hw.here.1; omega) (by have := hw.here.2; omega) (chAt_of hg))
  have HB := Lib.hid (fun (W : World) o => below_al W o)
  clear h
  have HW := Lib.hid (show ∀ x, (⟨[79, 75, 32], 6, .text⟩ : Cw) = x ∨ True from fun _ => .inr trivial)
  clear HW
  have hC : (flatL (encCh bp) (csU.map toCh)).toArray = #[.string ⟨#[79, 75, 32]⟩, .int .i64 6, .func (Fn.func 39) #[.pointer (some ⟨bp, 0, none⟩)] #[], .string ⟨#[66, 89, 69, 32]⟩, .int .i64 7, .func (Fn.func 39) #[.pointer (some ⟨bp, 0, none⟩)] #[], .string ⟨#[66, 65, 68, 32]⟩, .int .i64 8, .func (Fn.func 39) #[.pointer (some ⟨bp, 0, none⟩)] #[], .string ⟨([70, 76, 65, 71, 83, 32] ++ listL 31).toArray⟩, .int .i64 5, .func (Fn.func 56) #[.pointer (some ⟨bp, 0, none⟩)] #[], .string ⟨#[]⟩, .int .i64 0, .func (Fn.func 57) #[.pointer (some ⟨bp, 0, none⟩)] #[]] := rfl
  rw [hC] at CH
  clear hC
  rw [← hls] at CH
  clear hls
  have hz31 : (ByteArray.mk (listL 31).toArray).size ≤ 3000 := by decide
  generalize ByteArray.mk (listL 31).toArray = v31 at *
  go_enter Tryz.func38, Tryz.ntmps38
  go_wp2_with fail
  refine FL.out.mono ?_
  rintro e w1 ⟨rfl, hb1⟩
  have h1 := Lib.hid (HR.out.grow hb1)
  have K1 := Lib.hid (Rk.of_below (bb := bb) (bp := bp) hb1)
  clear hb1 FL HR
  go_wp2_with fail
  refine (CH.out w1 _ h1.out (HB.out _ _) (heap_alloc_new _ _)).mono ?_
  rintro e w2 ⟨hp, k2⟩
  obtain ⟨v, rfl⟩ := spo_val (spo_of hp)
  have HP := Lib.hid (spo_of hp)
  have K2 := Lib.hid ((K1.out.trans (Rk.of_below (HB.out _ _))).trans k2)
  clear hp k2 CH
  go_wp2_with fail
  go_ret
  exact ⟨HP.out, K2.out⟩

set_option maxRecDepth 100000 in
set_option maxHeartbeats 2000000 in
theorem number_st (bb bp c kb : Nat) (A Ab : Option Addr) (l : List UInt8) (r : RI) (hl : l.length ≤ 1000000) (w : World) (henv : ∀ W, Rk bb bp w W → Env W) (h : Rp bb bp A c l r Ab kb false w) :
    Calls Tryz.prog 57 #[.pointer (some ⟨bp, 0, none⟩)] w fun e w' => SPo bb bp (nextP .number l r) e w' ∧ Rk bb bp w w' := by
  have hmf : ∀ (fn : Fn) (first cap : Array Value) (w : World), (Instr.makeFunc fn first cap).run Tryz.prog w = .ok (.func fn first cap) w := fun _ _ _ _ => rfl
  have DC := Lib.hid (rdec_any 2 (.inl rfl) bb bp c kb A Ab l r false hl w henv h)
  have HNX : Hid (∀ o, numOf (l.takeWhile isDig) = o → nextP .number l r = o.bind fun u => choP csN (l.drop (l.takeWhile isDig).length) { r with n := u }) := Lib.hid (fun o ho => by rw [← ho]; rfl)
  have HU := Lib.hid (fun u => show rpU 2 r u = { r with n := u } from rfl)
  obtain ⟨o, ho⟩ : ∃ o, numOf (l.takeWhile isDig) = o := ⟨_, rfl⟩
  have HNX := Lib.hid (HNX.out o ho)
  rw [ho] at DC
  generalize nextP .number l r = nx at *
  generalize l.drop (l.takeWhile isDig).length = l2 at *
  clear ho h henv
  have CH := Lib.hid (fun (W V : World) A' c' u (hw : Rp bb bp A' c' l2 (rpU 2 r u) Ab kb false W) (hb : Below W.heap.size W V) (hg : V.heap[W.heap.size]? = some (.cells (flatL (encCh bp) (csN.map toCh)).toArray 68 (0, 0))) =>
    choose_any (csN.map toCh) 4 W.heap.size bb bp c' kb A' Ab l2 (rpU 2 r u) false rfl (by omega) V (hw.grow hb) (Array.getElem?_eq_some_iff.1 hg).1 (by have := hw.here.1; omega) (by have := hw.here.2; omega) (chAt_of hg))
  have HB := Lib.hid (fun (W : World) o => below_al W o)
  cases o with
  | none =>
    obtain rfl := HNX.out
    go_enter Tryz.func57, Tryz.ntmps57
    go_wp2_with fail
    refine DC.out.mono ?_
    rintro e w1 ⟨rfl, ⟨A1, c1, h1⟩, k1⟩
    have K1 := Lib.hid k1
    clear k1 DC
    go_wp2_with fail
    go_ret
    exact ⟨.inr ⟨rfl, rfl, _, _, _, _, _, _, h1⟩, K1.out⟩
  | some u =>
    obtain rfl := HNX.out
    go_enter Tryz.func57, Tryz.ntmps57
    go_wp2_with fail
    refine DC.out.mono ?_
    rintro e w1 ⟨rfl, ⟨A1, c1, h1⟩, k1⟩
    have K1 := Lib.hid k1
    clear k1 DC
    go_wp2_with fail
    refine (CH.out w1 _ _ _ _ h1.out (HB.out _ _) (heap_alloc_new _ _)).mono ?_
    rintro e w2 ⟨hp, k2⟩
    obtain ⟨v, rfl⟩ := spo_val (spo_of hp)
    have HP := Lib.hid (spo_of hp)
    have K2 := Lib.hid ((K1.out.trans (Rk.of_below (HB.out _ _))).trans k2)
    clear hp k2 CH
    go_wp2_with fail
    go_ret
    exact ⟨HP.out, K2.out⟩

theorem txF_any (x : UInt8) (W : World) : Calls Tryz.prog 59 #[.int .u8 (x.toNat : Int)] W fun e w' => e = .returned (.bool (txB x)) ∧ Below W.heap.size W w' :=
  text_any x.toNat W (by have := x.toNat_lt; omega)
theorem tgF_any (x : UInt8) (W : World) : Calls Tryz.prog 60 #[.int .u8 (x.toNat : Int)] W fun e w' => e = .returned (.bool (tgB x)) ∧ Below W.heap.size W w' :=
  tag_any x.toNat W (by have := x.toNat_lt; omega)

set_option maxRecDepth 100000 in
set_option maxHeartbeats 2000000 in
theorem text_st (bb bp c kb : Nat) (A Ab : Option Addr) (l : List UInt8) (r : RI) (hl : l.length ≤ 1000000) (w : World) (h : Rp bb bp A c l r Ab kb false w) :
    Calls Tryz.prog 39 #[.pointer (some ⟨bp, 0, none⟩)] w fun e w' => SPo bb bp (nextP .text l r) e w' ∧ Rk bb bp w w' := by
  have hmf : ∀ (fn : Fn) (first cap : Array Value) (w : World), (Instr.makeFunc fn first cap).run Tryz.prog w = .ok (.func fn first cap) w := fun _ _ _ _ => rfl
  have SP := Lib.hid (span_any 59 txB txF_any (fun _ _ => rfl) bb bp c kb A Ab l r false hl w h)
  have HNX : Hid (nextP .text l r = if l.takeWhile txB = [] then none else some (.fin, l.drop (l.takeWhile txB).length, { r with text := l.takeWhile txB })) := Lib.hid rfl
  generalize nextP .text l r = nx at *
  generalize l.drop (l.takeWhile txB).length = l2 at *
  generalize l.takeWhile txB = q at *
  clear h
  go_enter Tryz.func39, Tryz.ntmps39
  go_wp2_with fail
  refine SP.out.mono ?_
  rintro e w1 ⟨rfl, ⟨A1, c1, h1⟩, k1⟩
  have K1 := Lib.hid k1
  have f1 := Joins.unfrozen_of_block h1.out.blk 5
  have cc : w1.cell? ⟨bp, 5, none⟩ = some (.string ⟨r.text.toArray⟩) := cell_of_row _ _ 5 _ _ _ h1.out.blk
  have HP := Lib.hid (h1.out.put (i := 5) (v := .string ⟨q.toArray⟩) (r' := { r with text := q }) (Ab' := Ab) (kb' := kb) (wh' := false) (by rw [Joins.block_setCell h1.out.blk]; rfl) h1.out.body)
  have K2 := Lib.hid (K1.out.trans (Rk.of_bp (bb := bb) (grown_setCell w1 bp 5 (.string ⟨q.toArray⟩))))
  clear k1 SP
  cases q with
  | nil =>
    have HN := Lib.hid (show nx = none from HNX.out.trans (if_pos rfl))
    obtain rfl := HN.out
    go_wp2_with fail
    go_ret
    exact ⟨.inr ⟨rfl, rfl, _, _, _, _, _, _, HP⟩, K2.out⟩
  | cons x q =>
    have HN := Lib.hid (HNX.out.trans (if_neg (by simp)))
    have he : (ByteArray.mk (x :: q).toArray).toList.isEmpty = false := by rw [btl]; rfl
    clear HNX
    generalize hv : ByteArray.mk (x :: q).toArray = v at *
    clear hv
    go_wp2_with fail
    go_ret
    exact ⟨.inl ⟨_, _, _, HN.out, rfl, _, _, _, _, HP⟩, K2.out⟩

set_option maxRecDepth 100000 in
set_option maxHeartbeats 2000000 in
theorem fin_any (bb bp c kb : Nat) (A Ab : Option Addr) (l : List UInt8) (r : RI) (w : World) (h : Rp bb bp A c l r Ab kb false w) :
    Calls Tryz.prog 56 #[.pointer (some ⟨bp, 0, none⟩)] w fun e w' => e = .returned .nilFunc ∧ (∃ A' c', Hid (Rp bb bp A' c' (cutW [13, 10] l) r Ab kb ([13, 10].isPrefixOf l) w')) ∧ Rk bb bp w w' := by
  have PS := Lib.hid (pass_any bb bp c kb A Ab l [13, 10] r false w h)
  generalize cutW [13, 10] l = l2 at *
  generalize [13, 10].isPrefixOf l = q at *
  clear h
  go_enter Tryz.func56, Tryz.ntmps56
  go_wp2_with fail
  refine PS.out.mono ?_
  rintro e w1 ⟨rfl, ⟨A1, c1, h1⟩, k1⟩
  have K1 := Lib.hid k1
  have f1 := Joins.unfrozen_of_block h1.out.blk 11
  have cc : w1.cell? ⟨bp, 11, none⟩ = some (.bool false) := cell_of_row _ _ 11 _ _ _ h1.out.blk
  have HP := Lib.hid (h1.out.put (i := 11) (v := .bool q) (r' := r) (Ab' := Ab) (kb' := kb) (wh' := q) (by rw [Joins.block_setCell h1.out.blk]; rfl) h1.out.body)
  have K2 := Lib.hid (K1.out.trans (Rk.of_bp (bb := bb) (grown_setCell w1 bp 11 (.bool q))))
  clear k1 PS
  go_wp2_with fail
  go_ret
  exact ⟨rfl, ⟨_, _, HP⟩, K2.out⟩

def staV : Value := .agg #[.string ⟨#[32, 79, 75, 32]⟩, .string ⟨#[32, 78, 79, 32]⟩, .string ⟨#[32, 66, 65, 68, 32]⟩]
theorem sta_ix (w : World) : (Instr.index 84 staV (.int .i64 0)).run Tryz.prog w = .ok (.string ⟨#[32, 79, 75, 32]⟩) w ∧ (Instr.index 84 staV (.int .i64 1)).run Tryz.prog w = .ok (.string ⟨#[32, 78, 79, 32]⟩) w ∧ (Instr.index 84 staV (.int .i64 2)).run Tryz.prog w = .ok (.string ⟨#[32, 66, 65, 68, 32]⟩) w := by
  refine ⟨?_, ?_, ?_⟩ <;> kernel_rfl
def sta2 (l : List UInt8) (r : RI) : Option (St × List UInt8 × RI) := if [32, 66, 65, 68, 32].isPrefixOf l = true then some (.text, l.drop 5, { r with status := 2 }) else none
def sta1 (l : List UInt8) (r : RI) : Option (St × List UInt8 × RI) := if [32, 78, 79, 32].isPrefixOf l = true then some (.text, l.drop 4, { r with status := 1 }) else sta2 l r
theorem sta0_t (l : List UInt8) (r : RI) (h : [32, 79, 75, 32].isPrefixOf l = true) : staP l r = some (.text, l.drop 4, { r with status := 0 }) := if_pos h
theorem sta0_f (l : List UInt8) (r : RI) (h : [32, 79, 75, 32].isPrefixOf l = false) : staP l r = sta1 l r := if_neg (by rw [h]; decide)
theorem sta1_t (l : List UInt8) (r : RI) (h : [32, 78, 79, 32].isPrefixOf l = true) : sta1 l r = some (.text, l.drop 4, { r with status := 1 }) := if_pos h
theorem sta1_f (l : List UInt8) (r : RI) (h : [32, 78, 79, 32].isPrefixOf l = false) : sta1 l r = sta2 l r := if_neg (by rw [h]; decide)
theorem sta2_t (l : List UInt8) (r : RI) (h : [32, 66, 65, 68, 32].isPrefixOf l = true) : sta2 l r = some (.text, l.drop 5, { r with status := 2 }) := if_pos h
theorem sta2_f (l : List UInt8) (r : RI) (h : [32, 66, 65, 68, 32].isPrefixOf l = false) : sta2 l r = none := if_neg (by rw [h]; decide)
theorem cutW_t {s l : List UInt8} (h : s.isPrefixOf l = true) : cutW s l = l.drop s.length := if_pos h
theorem cutW_f {s l : List UInt8} (h : s.isPrefixOf l = false) : cutW s l = l := if_neg (by rw [h]; decide)

set_option maxRecDepth 100000 in
set_option maxHeartbeats 4000000 in
theorem tag_st (bb bp c kb : Nat) (A Ab : Option Addr) (l : List UInt8) (r : RI) (hl : l.length ≤ 1000000) (w : World) (h : Rp bb bp A c l r Ab kb false w) :
    Calls Tryz.prog 40 #[.pointer (some ⟨bp, 0, none⟩)] w fun e w' => SPo bb bp (nextP .tag l r) e w' ∧ Rk bb bp w w' := by
  have hmf : ∀ (fn : Fn) (first cap : Array Value) (w : World), (Instr.makeFunc fn first cap).run Tryz.prog w = .ok (.func fn first cap) w := fun _ _ _ _ => rfl
  have SP := Lib.hid (span_any 60 tgB tgF_any (fun _ _ => rfl) bb bp c kb A Ab l r false hl w h)
  have HNX : Hid (nextP .tag l r = if l.takeWhile tgB = [] then none else staP (l.drop (l.takeWhile tgB).length) { r with tag := l.takeWhile tgB }) := Lib.hid rfl
  generalize nextP .tag l r = nx at *
  generalize l.drop (l.takeWhile tgB).length = l2 at *
  generalize l.takeWhile tgB = q at *
  clear h
  go_enter Tryz.func40, Tryz.ntmps40
  go_wp2_with fail
  refine SP.out.mono ?_
  rintro e w1 ⟨rfl, ⟨A1, c1, h1⟩, k1⟩
  have K1 := Lib.hid k1
  have f1 := Joins.unfrozen_of_block h1.out.blk 3
  have cc : w1.cell? ⟨bp, 3, none⟩ = some (.string ⟨r.tag.toArray⟩) := cell_of_row _ _ 3 _ _ _ h1.out.blk
  have HP := Lib.hid (h1.out.put (i := 3) (v := .string ⟨q.toArray⟩) (r' := { r with tag := q }) (Ab' := Ab) (kb' := kb) (wh' := false) (by rw [Joins.block_setCell h1.out.blk]; rfl) h1.out.body)
  have K2 := Lib.hid (K1.out.trans (Rk.of_bp (bb := bb) (grown_setCell w1 bp 3 (.string ⟨q.toArray⟩))))
  clear k1 SP
  cases q with
  | nil =>
    have HN := Lib.hid (show nx = none from HNX.out.trans (if_pos rfl))
    obtain rfl := HN.out
    go_wp2_with fail
    go_ret
    exact ⟨.inr ⟨rfl, rfl, _, _, _, _, _, _, HP⟩, K2.out⟩
  | cons x q =>
    have HN := Lib.hid (HNX.out.trans (if_neg (by simp)))
    have he : (ByteArray.mk (x :: q).toArray).toList.isEmpty = false := by rw [btl]; rfl
    clear HNX
    generalize hr' : ({ r with tag := x :: q } : RI) = r2 at *
    generalize hv : ByteArray.mk (x :: q).toArray = v at *
    clear hv hr'
    have HPA := Lib.hid (fun W A' c' s (hw : Rp bb bp A' c' l2 r2 Ab kb false W) => pass_any bb bp c' kb A' Ab l2 s r2 false W hw)
    obtain ⟨w2, hw2⟩ : ∃ w2, w1.setCell ⟨bp, 3, none⟩ (.string v) = w2 := ⟨_, rfl⟩
    have x3 : w2.cell? ⟨bp, 3, none⟩ = some (.string v) := by
      rw [← hw2]
      refine (cell_of_row _ _ 3 _ _ _ (Joins.block_setCell h1.out.blk _)).trans ?_
      rfl
    rw [hw2] at HP K2
    go_upto_region 2 with (fail)
    clear hw2 cc f1 h1
    have HN := Lib.hid HN.out
    go_wp2_with fail
    go_loopw [18] (fun i wr => ∃ (A' : Option Addr) (c' : Nat), Hid (Rp bb bp A' c' l2 r2 Ab kb false wr) ∧ Hid (Rk bb bp w wr) ∧ ((i = .int .i64 0 ∧ Hid (nx = staP l2 r2)) ∨ (i = .int .i64 1 ∧ Hid (nx = sta1 l2 r2)) ∨ (i = .int .i64 2 ∧ Hid (nx = sta2 l2 r2)) ∨ (i = .int .i64 3 ∧ Hid (nx = none)))) (fun i _ => 3 - (intOf i).toNat)
    case atStart => exact ⟨_, _, HP, K2, .inl ⟨rfl, HN⟩⟩
    case round =>
    obtain ⟨A', c', hR, hK, hi⟩ := hrel
    clear x3
    have ix0 := (sta_ix wr).1
    have ix1 := (sta_ix wr).2.1
    have ix2 := (sta_ix wr).2.2
    unfold staV at ix0 ix1 ix2
    rcases hi with ⟨rfl, hN⟩ | ⟨rfl, hN⟩ | ⟨rfl, hN⟩ | ⟨rfl, hN⟩
    · have P0 := Lib.hid (HPA.out wr _ _ [32, 79, 75, 32] hR.out)
      go_wp2_with fail
      refine P0.out.mono ?_
      rintro e w3 ⟨rfl, ⟨A3, c3, h3⟩, k3⟩
      have K3 := Lib.hid (hK.out.trans k3)
      clear k3 P0
      cases q0 : [32, 79, 75, 32].isPrefixOf l2 with
      | true =>
        have HN2 := Lib.hid (hN.out.trans (sta0_t l2 r2 q0))
        rw [cutW_t q0] at h3
        have f3 := Joins.unfrozen_of_block h3.out.blk 4
        have c3' : w3.cell? ⟨bp, 4, none⟩ = some (.int .i64 r2.status) := cell_of_row _ _ 4 _ _ _ h3.out.blk
        have HP2 := Lib.hid (h3.out.put (i := 4) (v := .int .i64 0) (r' := { r2 with status := 0 }) (Ab' := Ab) (kb' := kb) (wh' := false) (by rw [Joins.block_setCell h3.out.blk]; rfl) h3.out.body)
        have K4 := Lib.hid (K3.out.trans (Rk.of_bp (bb := bb) (grown_setCell w3 bp 4 (.int .i64 0))))
        clear hN q0 HPA
        go_wp2_with fail
        go_ret
        exact ⟨.inl ⟨_, _, _, HN2.out, rfl, _, _, _, _, HP2⟩, K4.out⟩
      | false =>
        have HN2 := Lib.hid (hN.out.trans (sta0_f l2 r2 q0))
        rw [cutW_f q0] at h3
        clear hN q0
        go_wp2_with fail
        go_roundw
        case rel => exact ⟨A3, c3, h3, K3, .inr (.inl ⟨by go_num, HN2⟩)⟩
        case measure => simp [intOf]
    · have P0 := Lib.hid (HPA.out wr _ _ [32, 78, 79, 32] hR.out)
      go_wp2_with fail
      refine P0.out.mono ?_
      rintro e w3 ⟨rfl, ⟨A3, c3, h3⟩, k3⟩
      have K3 := Lib.hid (hK.out.trans k3)
      clear k3 P0
      cases q0 : [32, 78, 79, 32].isPrefixOf l2 with
      | true =>
        have HN2 := Lib.hid (hN.out.trans (sta1_t l2 r2 q0))
        rw [cutW_t q0] at h3
        have f3 := Joins.unfrozen_of_block h3.out.blk 4
        have c3' : w3.cell? ⟨bp, 4, none⟩ = some (.int .i64 r2.status) := cell_of_row _ _ 4 _ _ _ h3.out.blk
        have HP2 := Lib.hid (h3.out.put (i := 4) (v := .int .i64 1) (r' := { r2 with status := 1 }) (Ab' := Ab) (kb' := kb) (wh' := false) (by rw [Joins.block_setCell h3.out.blk]; rfl) h3.out.body)
        have K4 := Lib.hid (K3.out.trans (Rk.of_bp (bb := bb) (grown_setCell w3 bp 4 (.int .i64 1))))
        clear hN q0 HPA
        go_wp2_with fail
        go_ret
        exact ⟨.inl ⟨_, _, _, HN2.out, rfl, _, _, _, _, HP2⟩, K4.out⟩
      | false =>
        have HN2 := Lib.hid (hN.out.trans (sta1_f l2 r2 q0))
        rw [cutW_f q0] at h3
        clear hN q0
        go_wp2_with fail
        go_roundw
        case rel => exact ⟨A3, c3, h3, K3, .inr (.inr (.inl ⟨by go_num, HN2⟩))⟩
        case measure => simp [intOf]
    · have P0 := Lib.hid (HPA.out wr _ _ [32, 66, 65, 68, 32] hR.out)
      go_wp2_with fail
      refine P0.out.mono ?_
      rintro e w3 ⟨rfl, ⟨A3, c3, h3⟩, k3⟩
      have K3 := Lib.hid (hK.out.trans k3)
      clear k3 P0
      cases q0 : [32, 66, 65, 68, 32].isPrefixOf l2 with
      | true =>
        have HN2 := Lib.hid (hN.out.trans (sta2_t l2 r2 q0))
        rw [cutW_t q0] at h3
        have f3 := Joins.unfrozen_of_block h3.out.blk 4
        have c3' : w3.cell? ⟨bp, 4, none⟩ = some (.int .i64 r2.status) := cell_of_row _ _ 4 _ _ _ h3.out.blk
        have HP2 := Lib.hid (h3.out.put (i := 4) (v := .int .i64 2) (r' := { r2 with status := 2 }) (Ab' := Ab) (kb' := kb) (wh' := false) (by rw [Joins.block_setCell h3.out.blk]; rfl) h3.out.body)
        have K4 := Lib.hid (K3.out.trans (Rk.of_bp (bb := bb) (grown_setCell w3 bp 4 (.int .i64 2))))
        clear hN q0 HPA
        go_wp2_with fail
        go_ret
        exact ⟨.inl ⟨_, _, _, HN2.out, rfl, _, _, _, _, HP2⟩, K4.out⟩
      | false =>
        have HN2 := Lib.hid (hN.out.trans (sta2_f l2 r2 q0))
        rw [cutW_f q0] at h3
        clear hN q0
        go_wp2_with fail
        go_roundw
        case rel => exact ⟨A3, c3, h3, K3, .inr (.inr (.inr ⟨by go_num, HN2⟩))⟩
        case measure => simp [intOf]
    · go_wp2_with fail
      go_ret
      exact ⟨.inr ⟨hN.out, rfl, _, _, _, _, _, _, hR⟩, hK.out⟩
end Go.Proofs.YtpoejnajnaolpaaGreatDoor
