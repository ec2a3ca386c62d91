/- The laws of layer 13: play, of a call that gets. -/
import Derived.Test.YtcfpdflaabfdkaaTbZ
import Derived.Test.YtcfpdflaabfdkaaOps13
import Derived.Test.YtcfpdflaabfdkaaGc
namespace Go.Proofs.Ytcfpdflaabfdkaa
open Go.RowKit

def opV (o : OI) : Value := .agg #[.int .i64 o.kind, .int .u32 (o.m.u : Int), .int .u8 (o.m.f : Int), .slice o.m.A o.m.b.length o.m.k, .int .i64 o.mode]
/-- What the law's list is behind a call. -/
def nextM (l : List MI) (o : OI) : List MI := if o.kind = 0 then (putM l o.m).1 else if o.kind = 1 then (flM l o.m.u o.mode o.m.f).1 else if o.kind = 2 then remM l o.m.u else l
/-- What stands between the calls of play. -/
structure PlS (B g n : Nat) (S : Nat → Prop) (A : Option Addr) (L : List MI) (w : World) : Prop where
  tb : Tb g n S L w
  sb : ∀ k, S k → B ≤ k
  bw : B ≤ w.heap.size
  sl : SlAt encM 3 w A L
  out : Out S A
  lt : ∀ a, A = some a → a.block < w.heap.size
  by_ : ∀ m ∈ L, ByAt B w m.A m.k m.b
section
variable {B g n : Nat} {S S' : Nat → Prop} {A : Option Addr} {L L' : List MI} {w W w1 w2 : World}
/-- Behind memory made, a call of the table, and memory made again. -/
theorem PlS.more (hW : Below w.heap.size w W) (hm : More S S' W) : More S S' w :=
  ⟨hm.1, fun k hk => (hm.2 k hk).imp id fun e => Nat.le_trans hW.size e⟩
theorem PlS.sb' (h : PlS B g n S A L w) (hm : More S S' w) : ∀ k, S' k → B ≤ k := fun k hk => by
  rcases hm.2 k hk with e | e
  · exact h.sb k e
  · exact Nat.le_trans h.bw e
theorem PlS.out' (h : PlS B g n S A L w) (hm : More S S' w) : Out S' A := fun a ha hk => by
  rcases hm.2 _ hk with e | e
  · exact h.out a ha e
  · have := h.lt a ha
    omega
theorem Tb.below (h : Tb g n S L w) (hb : Below w.heap.size w W) : Tb g n S L W := h.kept (KeptO.of_below (S := fun _ => False) hb) fun _ _ e => e
/-- The list unchanged. -/
theorem PlS.same (h : PlS B g n S A L w) (hm : More S S' w) (hk : KeptO S w w2) (ht : Tb g n S' L w2) : PlS B g n S' A L w2 :=
  ⟨ht, h.sb' hm, Nat.le_trans h.bw hk.size, h.sl.keptO h.out hk, h.out' hm, fun a ha => Nat.lt_of_lt_of_le (h.lt a ha) hk.size, fun m hmem => (h.by_ m hmem).below (hk.below h.sb h.bw)⟩
end

/-- The list's array is the one it was, or a new one. -/
def Fr (A A' : Option Addr) (w : World) : Prop := A' = A ∨ ∀ a, A' = some a → w.heap.size ≤ a.block
theorem Fr.mono {A A' : Option Addr} {w W : World} (h : Fr A A' W) (hs : w.heap.size ≤ W.heap.size) : Fr A A' w := h.imp id fun h a ha => Nat.le_trans hs (h a ha)
theorem own_base {w : World} {base : Nat} {e : TypeId} {size n m c : Nat} {A : Option Addr} {xs : List Value} (h : w.ownsRow base e size (.slice A m c) n xs) : ∀ a, A = some a → base ≤ a.block := by
  intro a ha
  rcases h.2 with ⟨h1, _⟩ | ⟨g, cap, cur, h1, hb, _⟩
  · injection h1 with h1
    rw [h1] at ha
    cases ha
  · injection h1 with h1
    rw [h1] at ha
    injection ha with ha
    subst ha
    exact hb
/-- Behind a call that makes the list anew (or leaves it), and a call of the table. -/
theorem PlS.next {B g n : Nat} {S S' : Nat → Prop} {A A' : Option Addr} {L L' : List MI} {w w2 w3 : World} (h : PlS B g n S A L w) (hb : Below w.heap.size w w2) (hA : SlAt encM 3 w2 A' L') (ho : Out S A') (hlt : ∀ a, A' = some a → a.block < w2.heap.size)
    (hby : ∀ m ∈ L', ByAt B w m.A m.k m.b) (ht : Tb g n S' L' w3) (hm : More S S' w2) (hk : KeptO S w2 w3) : PlS B g n S' A' L' w3 ∧ More S S' w ∧ KeptO S w w3 := by
  have hm' := PlS.more hb hm
  have hk' := KeptO.after_below hb hk
  refine ⟨⟨ht, h.sb' hm', Nat.le_trans h.bw hk'.size, hA.keptO ho hk, fun a ha hs => ?_, fun a ha => Nat.lt_of_lt_of_le (hlt a ha) hk.size, fun m hmem => (hby m hmem).below (hk'.below h.sb h.bw)⟩, hm', hk'⟩
  rcases hm.2 _ hs with e | e
  · exact ho a ha e
  · have := hlt a ha
    omega

set_option maxRecDepth 100000 in
set_option maxHeartbeats 2000000 in
theorem play_get (B g n : Nat) (S : Nat → Prop) (A : Option Addr) (c : Nat) (L : List MI) (o : OI) (w : World) (h : PlS B g n S A L w) (hl : L.length ≤ 100000) (hu : o.m.u ≤ 4294967295) (k0 : o.kind ≠ 0) (k1 : o.kind ≠ 1) (k2 : o.kind ≠ 2) :
    Calls Try.prog 13 #[.pointer (some ⟨g, 0, none⟩), .slice A L.length c, opV o] w fun e w' => ∃ S', e = .returned (.tuple #[.slice A L.length c, .bool true]) ∧ PlS B g n S' A L w' ∧ More S S' w ∧ KeptO S w w' := by
  unfold opV
  have FD := Lib.hid (fun W (hB : Below w.heap.size w W) => rfind13_any (c := c) o.m.u hl (h.sl.below hB))
  have TG := Lib.hid (fun W (hB : Below w.heap.size w W) => tget_any o.m.u hu (h.tb.below hB) hl)
  have HH := Lib.hid h
  have HN : ∀ k, w.heap.size ≤ k → ¬ S k := fun k hk hs => by have := h.tb.lt k hs; omega
  have b0 : (o.kind == 0) = false := by simpa using k0
  have b1 : (o.kind == 1) = false := by simpa using k1
  have b2 : (o.kind == 2) = false := by simpa using k2
  have HB2 := Lib.hid (fun o1 o2 => below_next (below_al w o1) (below_al (w.alloc o1) o2))
  have HB3 := Lib.hid (fun o1 o2 o3 => below_next (below_next (below_al w o1) (below_al (w.alloc o1) o2)) (below_al ((w.alloc o1).alloc o2) o3))
  clear h k0 k1 k2
  rcases fdI_get L o.m.u with ⟨hd, hg⟩ | ⟨k, hk, hd, hg, -⟩
  · rw [hd] at FD
    rw [hg] at TG
    generalize o.m.u = u at *
    generalize o.m.f = f at *
    generalize o.m.b.length = bl at *
    go_enter Try.func13, Try.ntmps13
    go_wp2_with fail
    refine (FD.out _ (HB2.out _ _)).mono ?_
    rintro e w1 ⟨rfl, rfl⟩
    go_wp2_with fail
    refine (TG.out _ (HB3.out _ _ _)).mono ?_
    rintro e w1 ⟨x, S', rfl, hsame, hown, hout, htb, hmore, hk⟩
    have hmo := PlS.more (HB3.out _ _ _) hmore
    have hke := KeptO.after_below (HB3.out _ _ _) hk
    have hM := hk.heap (k := w.heap.size + 2) (heap_new1 _ _ (by simp)) (HN _ (by omega))
    have HP := Lib.hid (HH.out.same hmo hke htb)
    have HQ := Lib.hid (And.intro hmo hke)
    have HT := Lib.hid htb
    have SM := Lib.hid (fun W (hB : Below w1.heap.size w1 W) => rsame13_any x ⟨0, 0, none, 0, []⟩ W (((ByAt.of_own hown).below hB).mono hB.size) (ByAt.nil _ _ _ _))
    simp only [Option.getD] at hsame
    rw [hsame] at SM
    obtain ⟨m0, m1, m2⟩ := cells3 ((below_al w1 (.cells #[.int .u32 (x.u : Int), .int .u8 (x.f : Int), .slice x.A x.b.length x.k] 33)).block _ (Array.getElem?_eq_some_iff.1 hM).1 |>.trans hM)
    have HBx := Lib.hid (below_al w1 (.cells #[.int .u32 (x.u : Int), .int .u8 (x.f : Int), .slice x.A x.b.length x.k] 33))
    clear hM hk hke hmore hmo hown hout htb hsame TG FD
    unfold msV at SM ⊢
    go_wp2_with fail
    refine (SM.out _ HBx.out).mono ?_
    rintro e w2 ⟨rfl, hb2⟩
    have HB4 := below_next HBx.out hb2
    go_wp2_with fail
    go_ret2
    exact ⟨S', rfl, HP.out.same ⟨fun _ e => e, fun _ e => .inl e⟩ (KeptO.of_below HB4) (HT.out.below HB4), HQ.out.1, HQ.out.2.then_below HB4⟩
  · rw [hd] at FD
    rw [hg] at TG
    obtain ⟨b, off, rfl, hb, c0, c1, c2⟩ := HH.out.sl.msg hk
    have hby := (HH.out.by_ L[k] (List.getElem_mem _))
    have hkI : (k : Int) < (L.length : Int) := by omega
    have hk0 : (0 : Int) ≤ (k : Int) := by omega
    generalize L[k] = y at *
    generalize o.m.u = u at *
    generalize o.m.f = f at *
    generalize o.m.b.length = bl at *
    have hW := HB3.out (.cells #[.int .i64 o.kind, .int .u32 (u : Int), .int .u8 (f : Int), .slice o.m.A bl o.m.k, .int .i64 o.mode] 35) (.cells #[.int .u32 (u : Int), .int .u8 (f : Int), .slice o.m.A bl o.m.k] 33) (.cells #[.int .u32 0, .int .u8 0, .slice none 0 0] 33)
    replace c0 := (hW.cell (p := ⟨b, off + k * 3, none⟩) hb).trans c0
    replace c1 := (hW.cell (p := ⟨b, off + k * 3 + 1, none⟩) hb).trans c1
    replace c2 := (hW.cell (p := ⟨b, off + k * 3 + 2, none⟩) hb).trans c2
    clear hW
    go_enter Try.func13, Try.ntmps13
    go_wp2_with fail
    refine (FD.out _ (HB2.out _ _)).mono ?_
    rintro e w1 ⟨rfl, rfl⟩
    go_wp2_with fail
    refine (TG.out _ (HB3.out _ _ _)).mono ?_
    rintro e w1 ⟨x, S', rfl, hsame, hown, hout, htb, hmore, hk⟩
    have hmo := PlS.more (HB3.out _ _ _) hmore
    have hke := KeptO.after_below (HB3.out _ _ _) hk
    have hM := hk.heap (k := w.heap.size + 2) (heap_new1 _ _ (by simp)) (HN _ (by omega))
    have HP := Lib.hid (HH.out.same hmo hke htb)
    have HQ := Lib.hid (And.intro hmo hke)
    have HT := Lib.hid htb
    have hby2 := (hby.below (hke.below HH.out.sb HH.out.bw))
    have SM := Lib.hid (fun W (hB : Below w1.heap.size w1 W) => rsame13_any x y W (((ByAt.of_own hown).below hB).mono hB.size) (((hby2.mono (HP.out.bw)).below hB).mono hB.size))
    simp only [Option.getD] at hsame
    rw [hsame] at SM
    obtain ⟨m0, m1, m2⟩ := cells3 ((below_al w1 (.cells #[.int .u32 (x.u : Int), .int .u8 (x.f : Int), .slice x.A x.b.length x.k] 33)).block _ (Array.getElem?_eq_some_iff.1 hM).1 |>.trans hM)
    have HBx := Lib.hid (below_al w1 (.cells #[.int .u32 (x.u : Int), .int .u8 (x.f : Int), .slice x.A x.b.length x.k] 33))
    clear hM hk hke hmore hmo hown hout htb hsame TG FD c0 c1 c2 hb hby hby2
    unfold msV at SM ⊢
    go_wp2_with fail
    refine (SM.out _ HBx.out).mono ?_
    rintro e w2 ⟨rfl, hb2⟩
    have HB4 := below_next HBx.out hb2
    go_wp2_with fail
    go_ret2
    exact ⟨S', rfl, HP.out.same ⟨fun _ e => e, fun _ e => .inl e⟩ (KeptO.of_below HB4) (HT.out.below HB4), HQ.out.1, HQ.out.2.then_below HB4⟩
end Go.Proofs.Ytcfpdflaabfdkaa
