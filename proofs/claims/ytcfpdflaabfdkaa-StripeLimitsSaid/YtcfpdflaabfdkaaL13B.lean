/- The laws of layer 13: play, of a call that removes. By wip/gen/mkpl13.py. -/
import Derived.Test.YtcfpdflaabfdkaaL13A
import Derived.Test.YtcfpdflaabfdkaaGc
namespace Go.Proofs.Ytcfpdflaabfdkaa
open Go.RowKit

theorem heap_past2 (w : World) (o o2 : Obj) {i : Nat} (hi : i < w.heap.size) (h : w.heap[i]? = some o2) : (w.alloc o).heap[i]? = some o2 := (Below.heap_alloc w o i hi).trans h
theorem hU0 {W : World} {g : Nat} {a0 a1 a2 : Value} {T : TypeId} {z : Nat × Nat} (h : W.heap[g]? = some (.cells #[a0, a1, a2] T z)) : W.cell? ⟨g, 0, none⟩ = some a0 := (cells3 h).1
theorem own_blk {w : World} {base : Nat} {e : TypeId} {size n m c : Nat} {A : Option Addr} {xs : List Value} (h : w.ownsRow base e size (.slice A m c) n xs) : ∀ a, A = some a → a.block < w.heap.size := by
  intro a ha
  rcases h.2 with ⟨h1, _⟩ | ⟨g, cap, cur, h1, _, hh, _⟩
  · injection h1 with h1
    rw [h1] at ha
    cases ha
  · injection h1 with h1
    rw [h1] at ha
    injection ha with ha
    subst ha
    exact (Array.getElem?_eq_some_iff.1 hh).1

set_option maxRecDepth 100000 in
set_option maxHeartbeats 4000000 in
theorem play_rem (B g n : Nat) (S : Nat → Prop) (A : Option Addr) (c : Nat) (L : List MI) (o : OI) (w : World) (h : PlS B g n S A L w) (hl : L.length ≤ 100000) (hu : o.m.u ≤ 4294967295) (k2 : o.kind = 2) :
    Calls Try.prog 13 #[.pointer (some ⟨g, 0, none⟩), .slice A L.length c, opV o] w fun e w' => ∃ S' A' c', e = .returned (.tuple #[.slice A' (remM L o.m.u).length c', .bool true]) ∧ PlS B g n S' A' (remM L o.m.u) w' ∧ More S S' w ∧ KeptO S w w' ∧ Fr A A' w := by
  unfold opV
  rw [k2]
  clear k2
  have FD := Lib.hid (fun W (hB : Below w.heap.size w W) => rfind13_any (c := c) o.m.u hl (h.sl.below hB))
  have TG := Lib.hid (fun W (hB : Below w.heap.size w W) => tremove_any o.m.u hu (h.tb.below hB) hl)
  have HH := Lib.hid h
  have HN : ∀ k, w.heap.size ≤ k → ¬ S k := fun k hk hs => by have := h.tb.lt k hs; omega
  have HB2 := Lib.hid (fun o1 o2 => below_next (below_al w o1) (below_al (w.alloc o1) o2))
  have HB3 := Lib.hid (fun o1 o2 o3 => below_next (below_next (below_al w o1) (below_al (w.alloc o1) o2)) (below_al ((w.alloc o1).alloc o2) o3))
  clear h
  rcases fdI_get L o.m.u with ⟨hd, hg⟩ | ⟨k, hk, hd, hg, -⟩
  · rw [hd] at FD
    rw [hg] at TG
    generalize o.m.u = u at *
    generalize o.m.f = f at *
    generalize o.m.b.length = bl at *
    go_enter Try.func13, Try.ntmps13
    go_wp2_with fail
    refine (FD.out _ (HB2.out _ _)).mono ?_
    rintro e w1 ⟨rfl, rfl⟩
    go_wp2_with fail
    refine (TG.out _ (HB3.out _ _ _)).mono ?_
    rintro e w1 ⟨x, S', rfl, hsame, hown, htb, hmore, hke⟩
    have hsz := hke.size
    simp only [World.size_alloc] at hsz
    have HQ := Lib.hid (And.intro (PlS.more (HB3.out _ _ _) hmore) (KeptO.after_below (HB3.out _ _ _) hke))
    have hM : M3 w1 (w.heap.size + 2) ⟨0, 0, none, 0, []⟩ := hke.heap (k := w.heap.size + 2) (heap_new1 _ _ (by simp)) (HN _ (by omega))
    have hU := hke.heap (k := w.heap.size + 1) (heap_past2 _ _ _ (by simp) (heap_new1 _ _ (by simp))) (HN _ (by omega))
    have HT := Lib.hid htb
    have HSL := Lib.hid (HH.out.sl.keptO HH.out.out HQ.out.2)
    have HBW := Lib.hid (show B ≤ w1.heap.size from Nat.le_trans HH.out.bw HQ.out.2.size)
    have HBY := Lib.hid (fun m hm => (HH.out.by_ m hm).below (HQ.out.2.below HH.out.sb HH.out.bw))
    have RM := Lib.hid (fun W (hB : Below w1.heap.size w1 W) => rremove13_any (c := c) u hl (HSL.out.below hB))
    have SM := Lib.hid (fun W (hB : Below w1.heap.size w1 W) => rsame13_any x ⟨0, 0, none, 0, []⟩ W ((hown.below hB).mono hB.size) (ByAt.nil _ _ _ _))
    simp only [Option.getD] at hsame
    rw [hsame] at SM
    have HX := Lib.hid (M3.new (W := w1) (m := x) rfl)
    have HBx := Lib.hid (below_al w1 (.cells #[.int .u32 (x.u : Int), .int .u8 (x.f : Int), .slice x.A x.b.length x.k] 33))
    have HM := Lib.hid (hM.below HBx.out)
    have u0 := (hU0 ((HBx.out.block _ (Array.getElem?_eq_some_iff.1 hU).1).trans hU))
    clear hM hU hke hmore hown htb hsame TG FD 
    unfold msV at SM ⊢
    go_wp2_with fail
    refine (RM.out _ HBx.out).mono ?_
    rintro e w2 ⟨v, rfl, hrow, hb2⟩
    obtain ⟨A', c', rfl⟩ := own_any hrow
    obtain ⟨x0, x1, x2⟩ := (HX.out.below hb2).cells
    obtain ⟨m0, m1, m2⟩ := (HM.out.below hb2).cells
    have HB2' := Lib.hid (below_next HBx.out hb2)
    have HO := Lib.hid hrow
    clear hrow hb2 u0
    go_wp2_with fail
    refine (SM.out _ HB2'.out).mono ?_
    rintro e w3 ⟨rfl, hb3⟩
    have HB4 := below_next HB2'.out hb3
    go_wp2_with fail
    go_ret2
    refine ⟨S', A', c', rfl, ⟨HT.out.below HB4, HH.out.sb' HQ.out.1, Nat.le_trans HBW.out HB4.size, (SlAt.of_own encM_len HO.out).below hb3, own_out HO.out (fun k hk => by have := HT.out.lt k hk; rw [World.size_alloc]; omega), ?_, fun m hm => (HBY.out m (List.mem_filter.1 hm).1).below (HB4.mono HBW.out)⟩, HQ.out.1, HQ.out.2.then_below HB4, .inr fun a ha => by have := own_base HO.out a ha; rw [World.size_alloc] at this; omega⟩
    intro a ha
    have := own_blk HO.out a ha
    have := hb3.size
    omega
  · rw [hd] at FD
    rw [hg] at TG
    obtain ⟨b, off, rfl, hb, c0, c1, c2⟩ := HH.out.sl.msg hk
    have hby := (HH.out.by_ L[k] (List.getElem_mem _))
    have hkI : (k : Int) < (L.length : Int) := by omega
    have hk0 : (0 : Int) ≤ (k : Int) := by omega
    generalize L[k] = y at *
    generalize o.m.u = u at *
    generalize o.m.f = f at *
    generalize o.m.b.length = bl at *
    have hW := HB3.out (.cells #[.int .i64 2, .int .u32 (u : Int), .int .u8 (f : Int), .slice o.m.A bl o.m.k, .int .i64 o.mode] 35) (.cells #[.int .u32 (u : Int), .int .u8 (f : Int), .slice o.m.A bl o.m.k] 33) (.cells #[.int .u32 0, .int .u8 0, .slice none 0 0] 33)
    replace c0 := (hW.cell (p := ⟨b, off + k * 3, none⟩) hb).trans c0
    replace c1 := (hW.cell (p := ⟨b, off + k * 3 + 1, none⟩) hb).trans c1
    replace c2 := (hW.cell (p := ⟨b, off + k * 3 + 2, none⟩) hb).trans c2
    clear hW
    go_enter Try.func13, Try.ntmps13
    go_wp2_with fail
    refine (FD.out _ (HB2.out _ _)).mono ?_
    rintro e w1 ⟨rfl, rfl⟩
    go_wp2_with fail
    refine (TG.out _ (HB3.out _ _ _)).mono ?_
    rintro e w1 ⟨x, S', rfl, hsame, hown, htb, hmore, hke⟩
    have hsz := hke.size
    simp only [World.size_alloc] at hsz
    have HQ := Lib.hid (And.intro (PlS.more (HB3.out _ _ _) hmore) (KeptO.after_below (HB3.out _ _ _) hke))
    have hM : M3 w1 (w.heap.size + 2) y := hke.heap (k := w.heap.size + 2) (heap_new1 _ _ (by simp)) (HN _ (by omega))
    have hU := hke.heap (k := w.heap.size + 1) (heap_past2 _ _ _ (by simp) (heap_new1 _ _ (by simp))) (HN _ (by omega))
    have HT := Lib.hid htb
    have HSL := Lib.hid (HH.out.sl.keptO HH.out.out HQ.out.2)
    have HBW := Lib.hid (show B ≤ w1.heap.size from Nat.le_trans HH.out.bw HQ.out.2.size)
    have HBY := Lib.hid (fun m hm => (HH.out.by_ m hm).below (HQ.out.2.below HH.out.sb HH.out.bw))
    have hby2 := ((hby.below (HQ.out.2.below HH.out.sb HH.out.bw)).mono HBW.out)
    have RM := Lib.hid (fun W (hB : Below w1.heap.size w1 W) => rremove13_any (c := c) u hl (HSL.out.below hB))
    have SM := Lib.hid (fun W (hB : Below w1.heap.size w1 W) => rsame13_any x y W ((hown.below hB).mono hB.size) ((hby2.below hB).mono hB.size))
    simp only [Option.getD] at hsame
    rw [hsame] at SM
    have HX := Lib.hid (M3.new (W := w1) (m := x) rfl)
    have HBx := Lib.hid (below_al w1 (.cells #[.int .u32 (x.u : Int), .int .u8 (x.f : Int), .slice x.A x.b.length x.k] 33))
    have HM := Lib.hid (hM.below HBx.out)
    have u0 := (hU0 ((HBx.out.block _ (Array.getElem?_eq_some_iff.1 hU).1).trans hU))
    clear hM hU hke hmore hown htb hsame TG FD c0 c1 c2 hb hby hby2
    unfold msV at SM ⊢
    go_wp2_with fail
    refine (RM.out _ HBx.out).mono ?_
    rintro e w2 ⟨v, rfl, hrow, hb2⟩
    obtain ⟨A', c', rfl⟩ := own_any hrow
    obtain ⟨x0, x1, x2⟩ := (HX.out.below hb2).cells
    obtain ⟨m0, m1, m2⟩ := (HM.out.below hb2).cells
    have HB2' := Lib.hid (below_next HBx.out hb2)
    have HO := Lib.hid hrow
    clear hrow hb2 u0
    go_wp2_with fail
    refine (SM.out _ HB2'.out).mono ?_
    rintro e w3 ⟨rfl, hb3⟩
    have HB4 := below_next HB2'.out hb3
    go_wp2_with fail
    go_ret2
    refine ⟨S', A', c', rfl, ⟨HT.out.below HB4, HH.out.sb' HQ.out.1, Nat.le_trans HBW.out HB4.size, (SlAt.of_own encM_len HO.out).below hb3, own_out HO.out (fun k hk => by have := HT.out.lt k hk; rw [World.size_alloc]; omega), ?_, fun m hm => (HBY.out m (List.mem_filter.1 hm).1).below (HB4.mono HBW.out)⟩, HQ.out.1, HQ.out.2.then_below HB4, .inr fun a ha => by have := own_base HO.out a ha; rw [World.size_alloc] at this; omega⟩
    intro a ha
    have := own_blk HO.out a ha
    have := hb3.size
    omega
end Go.Proofs.Ytcfpdflaabfdkaa
