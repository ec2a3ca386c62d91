/- resp: the parts of a fetched response: what the closure of its form collects. -/
import Derived.Test.YtpoejnajnaolpaaGreatDoorGb
import Derived.Test.YtpoejnajnaolpaaGreatDoorGa
import Derived.Test.YtpoejnajnaolpaaGreatDoorGc
import Derived.RegionTactic
import Derived.Deep.Cut
import Derived.Deep.RegionHeld3
namespace Go.Proofs.YtpoejnajnaolpaaGreatDoor
open Go.RowKit

/-- The collected parts: the box bs holds a slice of strings in a row of its own, from block base on. -/
structure Parts (bs base : Nat) (ps : List (List UInt8)) (w : World) : Prop where
  ex : ∃ A k, w.heap[bs]? = some (.cells #[.slice A ps.length k] 71 (0, 0)) ∧ w.ownsRow base 9 1 (.slice A ps.length k) ps.length (flatL encS ps)
  lt : bs < base
  le : base ≤ w.heap.size
theorem Parts.below {bs base : Nat} {ps : List (List UInt8)} {w w' : World} (h : Parts bs base ps w) (hb : Below w.heap.size w w') : Parts bs base ps w' := by
  obtain ⟨⟨A, k, h1, h2⟩, h3, h4⟩ := h
  exact ⟨⟨A, k, (hb.block bs (by omega)).trans h1, own_below h2 hb⟩, h3, Nat.le_trans h4 hb.size⟩
theorem own_setAt {base bs n : Nat} {T : TypeId} {v x : Value} {xs : List Value} {w : World} (h : w.ownsRow base T 1 v n xs) (hlt : bs < base) : (w.setCell ⟨bs, 0, none⟩ x).ownsRow base T 1 v n xs := by
  refine ⟨h.1, ?_⟩
  rcases h.2 with h1 | ⟨g, cap, cur, h1, hg, h3, h4⟩
  · exact .inl h1
  · exact .inr ⟨g, cap, cur, h1, hg, (Below.heap_setCell _ _ _ g (by show g ≠ bs; omega)).trans h3, h4⟩
/-- What stands behind one more part. -/
theorem parts_snoc {bs base : Nat} {ps : List (List UInt8)} {p : List UInt8} {w W w3 : World} {A A3 : Option Addr} {k k3 m : Nat} (hbs : w.heap[bs]? = some (.cells #[.slice A ps.length k] 71 (0, 0))) (ho : w.ownsRow base 9 1 (.slice A ps.length k) ps.length (flatL encS ps)) (hlt : bs < base) (hle : base ≤ w.heap.size)
    (hW : Below w.heap.size w W) (hown : w3.ownsRow base 9 1 (.slice A3 m k3) m (flatL encS ps ++ encS p)) (hm : m = ps.length + 1) (hg : W.grownBy w3 (Value.ownBlock (.slice A ps.length k))) :
    Parts bs base (ps ++ [p]) (w3.setCell ⟨bs, 0, none⟩ (.slice A3 m k3)) ∧ Below bs w (w3.setCell ⟨bs, 0, none⟩ (.slice A3 m k3)) := by
  subst hm
  have hor : ∀ j, Value.ownBlock (.slice A ps.length k) = some j → base ≤ j := fun j hj => (ho.lt j hj).1
  have hne : some bs ≠ Value.ownBlock (.slice A ps.length k) := fun e => by have := hor bs e.symm; omega
  have hws := hW.size
  have hbox : w3.heap[bs]? = some (.cells #[.slice A ps.length k] 71 (0, 0)) := (hg.block bs (by omega) (fun e => hne e)).trans ((hW.block bs (by omega)).trans hbs)
  refine ⟨⟨⟨A3, k3, ?_, ?_⟩, hlt, ?_⟩, ?_⟩
  · rw [Joins.block_setCell hbox, List.length_append, List.length_singleton]; simp
  · rw [List.length_append, List.length_singleton, flatL_append]
    exact own_setAt (by simpa [flatL] using hown) hlt
  · have := hg.size; simp; omega
  · have hB : Below bs w w3 := (hW.mono (by omega)).grown hg (by omega) (fun j hj => by have := hor j hj; omega)
    exact hB.setCell (p := ⟨bs, 0, none⟩) (Nat.le_refl _) _

set_option maxRecDepth 100000 in
set_option maxHeartbeats 2000000 in
theorem put9_any (g bs base : Nat) (r : RI) (A0 : Option Addr) (k0 : Nat) (ps : List (List UInt8)) (p : List UInt8) (item : Int) (q : Bool) (hq : rsBit r.items item = q) (hn : ps.length ≤ 1000) (w : World) (hR : RsBox g r A0 k0 w) (hP : Parts bs base ps w) :
    Calls Tryz.prog 91 #[.int .i64 item, .string ⟨p.toArray⟩, .pointer (some ⟨g, 0, none⟩), .pointer (some ⟨bs, 0, none⟩)] w fun e w' =>
      e = .returned (.tuple #[]) ∧ Parts bs base (ps ++ if q = true then [p] else []) w' ∧ Below bs w w' := by
  obtain ⟨i0, hi, hz0, hz1, hz2⟩ := info_parts infoS
  obtain ⟨-, -, -, -, -, c5, -, -, -, -⟩ := hR.cells
  obtain ⟨⟨A, k, hbs, ho⟩, hlt, hle⟩ := id hP
  have c0 := cell_of_row w bs 0 _ _ _ hbs
  have hb1 : (bits BinOp.and IntKind.i64 r.items item != 0) = q := hq
  clear hq
  generalize r.items = items at *
  cases q with
  | false =>
    have HP := Lib.hid hP
    clear hP hbs ho hR
    go_enter Tryz.func91, Tryz.ntmps91
    go_wp2_with fail
    go_end0
    exact ⟨rfl, HP.out, Below.refl _ _⟩
  | true =>
    have HE : Hid (encS p = [.string ⟨p.toArray⟩]) := Lib.hid rfl
    have HBS := Lib.hid hbs
    have HO := Lib.hid ho
    have HL := Lib.hid hlt
    have HLE := Lib.hid hle
    have HAL := Lib.hid (below_al w (.cells #[.string ⟨p.toArray⟩] 9))
    obtain ⟨n, hnn⟩ : ∃ n, ps.length = n := ⟨_, rfl⟩
    have HN := Lib.hid hnn
    rw [hnn] at c0 hn
    have HO2 := Lib.hid (show w.ownsRow base 9 1 (.slice A n k) n (flatL encS ps) by have := HO.out; rwa [hnn] at this)
    have HBX := Lib.hid (show w.heap[bs]? = some (.cells #[.slice A n k] 71 (0, 0)) by have := HBS.out; rwa [hnn] at this)
    have hbl : bs < w.heap.size := by omega
    have HBL := Lib.hid hbl
    clear hP hbs ho hR hnn hlt hle hbl
    generalize hpb : ByteArray.mk p.toArray = pb at *
    clear hpb
    go_enter Tryz.func91, Tryz.ntmps91
    go_wp2_with (at_builtin; refine wpList_append_own _ rfl _ _ 71 rfl base 9 i0 _ 1 16 Tryz.underlying71 hi hz0 hz1 hz2 rfl (by decide) _ n _ rfl (HO2.out.alloc _) ⟨w.heap.size, 0, none⟩ 1 1 (encS p) rfl rfl (by rw [HE.out]; exact cell_one_new _ _ _) (by intro u hu; rw [HE.out] at hu; simp at hu; subst hu; rfl) (by unfold maxLen; omega) (by omega) (by have := HLE.out; simp; omega) ?_; intro v' w8 hown' hgrow _; obtain ⟨A3, k3, rfl⟩ := own_any hown'; have hK := (hgrow.block bs (by have := HBL.out; simp; omega) (fun e => by have h1 := (HO2.out.lt bs e.symm).1; have h2 := HL.out; omega)).trans ((HAL.out.block bs HBL.out).trans HBX.out); have d0 := cell_of_row w8 bs 0 _ _ _ hK; have f0 := Joins.unfrozen_of_block hK 0; have HOW := Lib.hid hown'; have HG := Lib.hid hgrow; clear hown' hgrow hK)
    go_end0
    obtain ⟨P1, B1⟩ := parts_snoc (p := p) HBS.out HO.out HL.out HLE.out HAL.out HOW.out (by rw [HN.out]) (by rw [HN.out]; exact HG.out)
    exact ⟨rfl, P1, B1⟩
end Go.Proofs.YtpoejnajnaolpaaGreatDoor

namespace Go.Proofs.YtpoejnajnaolpaaGreatDoor
open Go.RowKit

theorem cat9 (a b : List UInt8) : ByteArray.mk a.toArray ++ ByteArray.mk b.toArray = ⟨(a ++ b).toArray⟩ := by
  apply ByteArray.ext
  simp
theorem list_len (f : Nat) : (listL f).length ≤ 52 := by
  have h1 := sp_len (eachL f)
  have h2 : (eachL f).length ≤ 5 := eachK_len f 5
  unfold listL
  simp
  omega
theorem parts_len (r : RI) (hs : RIsm r) (hu : r.uid ≤ 4294967295) (hz : r.size ≤ 4294967295) : (rsParts r).length ≤ 4 ∧ ∀ p ∈ rsParts r, p.length ≤ 9000 := by
  have h1 := list_len r.flags
  have h2 := dec_len hu
  have h3 := dec_len hz
  have h4 := headL_len (n := r.body.length) (by have := hs.body; omega)
  have h5 := hs.body
  unfold rsParts
  constructor
  · split <;> split <;> split <;> split <;> simp
  · intro p hp
    simp only [List.mem_append] at hp
    rcases hp with hp | hp | hp | hp
    all_goals
      split at hp
      · rw [List.mem_singleton] at hp
        subst hp
        first
          | (unfold literalL; simp only [List.length_append, List.length_cons, List.length_nil]; omega)
          | (simp only [List.length_append, List.length_cons, List.length_nil]; omega)
      · cases hp

theorem put9_s (g bs base : Nat) (r : RI) (A0 : Option Addr) (k0 : Nat) (ps : List (List UInt8)) (p : List UInt8) (s : ByteArray) (hs : s = ⟨p.toArray⟩) (item : Int) (q : Bool) (hq : rsBit r.items item = q) (hn : ps.length ≤ 1000) (w : World) (hR : RsBox g r A0 k0 w) (hP : Parts bs base ps w) :
    Calls Tryz.prog 91 #[.int .i64 item, .string s, .pointer (some ⟨g, 0, none⟩), .pointer (some ⟨bs, 0, none⟩)] w fun e w' =>
      e = .returned (.tuple #[]) ∧ Parts bs base (ps ++ if q = true then [p] else []) w' ∧ Below bs w w' := by
  subst hs
  exact put9_any g bs base r A0 k0 ps p item q hq hn w hR hP
theorem RsBox.under {g B : Nat} {r : RI} {A : Option Addr} {k : Nat} {W W' : World} (h : RsBox g r A k W) (hb : Below B W W') (hlt : g < B) : RsBox g r A k W' := (hb.block g hlt).trans h
theorem if_len {q : Bool} {ps : List (List UInt8)} {p : List UInt8} {n : Nat} (h : ps.length ≤ n) : (ps ++ if q = true then [p] else []).length ≤ n + 1 := by
  rw [List.length_append]
  split <;> simp <;> omega

set_option maxRecDepth 100000 in
set_option maxHeartbeats 4000000 in
theorem fetched3_any (r : RI) (A : Option Addr) (k : Nat) (hr : RIok r) (hs : RIsm r) (w : World) (henv : Env w) (hA : ByAt w.heap.size w A k r.body) :
    Calls Tryz.prog 71 #[rsV r A k] w fun e w' => e = .returned (.string ⟨([42, 32] ++ Lib.decDigits r.n ++ [32, 70, 69, 84, 67, 72, 32, 40] ++ spL (rsParts r) ++ [41]).toArray⟩) ∧ Below w.heap.size w w' := by
  obtain ⟨hpl, hpm⟩ := parts_len r hs hr.uid hr.size
  have hsp := spL_len (rsParts r) hpm
  have HP4 := Lib.hid hpl
  -- the callees, at any later world
  have FL := Lib.hid (fun W => flist_any r.flags (by have := hr.flags; omega) W)
  have DU := Lib.hid (fun W (h : Below w.heap.size w W) => decimal_any r.uid hr.uid W (henv.below h))
  have DZ := Lib.hid (fun W (h : Below w.heap.size w W) => decimal_any r.size hr.size W (henv.below h))
  have DN := Lib.hid (fun W (h : Below w.heap.size w W) => decimal_any r.n hr.n W (henv.below h))
  have LT := Lib.hid (fun W (h : Below w.heap.size w W) => literal_any _ A k r.body (by have := hs.body; omega) W (henv.below h) (hA.below h))
  have BX := Lib.hid (RsBox.new w r A k)
  have hsl : (ByteArray.mk (listL r.flags).toArray).size ≤ 52 := by have := list_len r.flags; simpa [ByteArray.size] using this
  have hsu : (ByteArray.mk (Lib.decDigits r.uid).toArray).size ≤ 10 := by have := dec_len hr.uid; simpa [ByteArray.size] using this
  have hsz : (ByteArray.mk (Lib.decDigits r.size).toArray).size ≤ 10 := by have := dec_len hr.size; simpa [ByteArray.size] using this
  have hsn : (ByteArray.mk (Lib.decDigits r.n).toArray).size ≤ 10 := by have := dec_len hr.n; simpa [ByteArray.size] using this
  have hst : (ByteArray.mk (literalL r.body).toArray).size ≤ 4000 := by
    have h4 := headL_len (n := r.body.length) (by have := hs.body; omega)
    have h5 := hs.body
    have : (literalL r.body).length ≤ 4000 := by unfold literalL; rw [List.length_append]; omega
    simpa [ByteArray.size] using this
  have B0 := Lib.hid (below_2box w (.cells #[.int .i64 r.kind, .int .u32 (r.n : Int), .string ⟨r.tag.toArray⟩, .int .i64 r.status, .string ⟨r.text.toArray⟩, .int .i64 r.items, .int .u8 (r.flags : Int), .int .u32 (r.uid : Int), .int .u32 (r.size : Int), .slice A r.body.length k] 27) (.cells #[.slice none 0 0] 71))
  have BX2 := Lib.hid (BX.out.below (below_al _ (.cells #[.slice none 0 0] 71)))
  have hx := heap_alloc_new (w.alloc (.cells #[.int .i64 r.kind, .int .u32 (r.n : Int), .string ⟨r.tag.toArray⟩, .int .i64 r.status, .string ⟨r.text.toArray⟩, .int .i64 r.items, .int .u8 (r.flags : Int), .int .u32 (r.uid : Int), .int .u32 (r.size : Int), .slice A r.body.length k] 27)) (.cells #[.slice none 0 0] 71)
  rw [World.size_alloc] at hx
  have P0 := Lib.hid (show Parts (w.heap.size + 1) (w.heap.size + 2) [] ((w.alloc (.cells #[.int .i64 r.kind, .int .u32 (r.n : Int), .string ⟨r.tag.toArray⟩, .int .i64 r.status, .string ⟨r.text.toArray⟩, .int .i64 r.items, .int .u8 (r.flags : Int), .int .u32 (r.uid : Int), .int .u32 (r.size : Int), .slice A r.body.length k] 27)).alloc (.cells #[.slice none 0 0] 71)) from ⟨⟨none, 0, hx, World.ownsRow_nil _ _ _ _⟩, by omega, by simp⟩)
  obtain ⟨b1, hb1⟩ : ∃ q, rsBit r.items 1 = q := ⟨_, rfl⟩
  obtain ⟨b2, hb2⟩ : ∃ q, rsBit r.items 2 = q := ⟨_, rfl⟩
  obtain ⟨b4, hb4⟩ : ∃ q, rsBit r.items 4 = q := ⟨_, rfl⟩
  obtain ⟨b16, hb16⟩ : ∃ q, rsBit r.items 16 = q := ⟨_, rfl⟩
  have HPS : Hid (rsParts r = (((([] ++ if b1 = true then [[70, 76, 65, 71, 83, 32] ++ listL r.flags] else []) ++ if b2 = true then [[85, 73, 68, 32] ++ Lib.decDigits r.uid] else []) ++ if b4 = true then [[82, 70, 67, 56, 50, 50, 46, 83, 73, 90, 69, 32] ++ Lib.decDigits r.size] else []) ++ if b16 = true then [[66, 79, 68, 89, 91, 93, 32] ++ literalL r.body] else [])) := Lib.hid (by
    unfold rsParts
    rw [hb1, hb2, hb4, hb16]
    simp only [List.nil_append, List.append_assoc])
  have PU := Lib.hid (fun W ps p s item q (hs : s = ByteArray.mk (List.toArray p)) (h : rsBit r.items item = q) (hn : ps.length ≤ 1000) (hR : RsBox w.heap.size r A k W) (hP : Parts (w.heap.size + 1) (w.heap.size + 2) ps W) => put9_s w.heap.size (w.heap.size + 1) (w.heap.size + 2) r A k ps p s hs item q h hn W hR hP)
  have H1 := Lib.hid hb1
  have H2 := Lib.hid hb2
  have H4 := Lib.hid hb4
  have H16 := Lib.hid hb16
  have HSP := Lib.hid hsp
  unfold rsV
  have e1 : ByteArray.mk #[70, 76, 65, 71, 83, 32] ++ ByteArray.mk (listL r.flags).toArray = ⟨([70, 76, 65, 71, 83, 32] ++ listL r.flags).toArray⟩ := cat9 [70, 76, 65, 71, 83, 32] (listL r.flags)
  have e2 : ByteArray.mk #[85, 73, 68, 32] ++ ByteArray.mk (Lib.decDigits r.uid).toArray = ⟨([85, 73, 68, 32] ++ Lib.decDigits r.uid).toArray⟩ := cat9 _ _
  have e4 : ByteArray.mk #[82, 70, 67, 56, 50, 50, 46, 83, 73, 90, 69, 32] ++ ByteArray.mk (Lib.decDigits r.size).toArray = ⟨([82, 70, 67, 56, 50, 50, 46, 83, 73, 90, 69, 32] ++ Lib.decDigits r.size).toArray⟩ := cat9 _ _
  have e16 : ByteArray.mk #[66, 79, 68, 89, 91, 93, 32] ++ ByteArray.mk (literalL r.body).toArray = ⟨([66, 79, 68, 89, 91, 93, 32] ++ literalL r.body).toArray⟩ := cat9 _ _
  have EE := Lib.hid (And.intro e1 (And.intro e2 (And.intro e4 e16)))
  clear hx hA henv hr hs hpl hpm hsp hb1 hb2 hb4 hb16 e1 e2 e4 e16
  obtain ⟨ps, hps⟩ : ∃ ps, rsParts r = ps := ⟨_, rfl⟩
  rw [hps] at HPS HP4 HSP
  have HFIN := Lib.hid (show (ByteArray.mk #[42, 32] ++ ByteArray.mk (Lib.decDigits r.n).toArray ++ ByteArray.mk #[32, 70, 69, 84, 67, 72, 32, 40] ++ ByteArray.mk (spL ps).toArray ++ ByteArray.mk #[41]) = ⟨([42, 32] ++ Lib.decDigits r.n ++ [32, 70, 69, 84, 67, 72, 32, 40] ++ spL ps ++ [41]).toArray⟩ by
    rw [← cat9, ← cat9, ← cat9, ← cat9])
  rw [hps, ← HFIN.out]
  clear HFIN hps
  generalize hW1 : (w.alloc (.cells #[.int .i64 r.kind, .int .u32 (r.n : Int), .string ⟨r.tag.toArray⟩, .int .i64 r.status, .string ⟨r.text.toArray⟩, .int .i64 r.items, .int .u8 (r.flags : Int), .int .u32 (r.uid : Int), .int .u32 (r.size : Int), .slice A r.body.length k] 27)).alloc (.cells #[.slice none 0 0] 71) = w1 at *
  have HW1 := Lib.hid hW1
  clear hW1
  generalize ByteArray.mk (listL r.flags).toArray = dF at *
  generalize ByteArray.mk (Lib.decDigits r.uid).toArray = dU at *
  generalize ByteArray.mk (Lib.decDigits r.size).toArray = dZ at *
  generalize ByteArray.mk (Lib.decDigits r.n).toArray = dN at *
  generalize [70, 76, 65, 71, 83, 32] ++ listL r.flags = p1 at *
  generalize [85, 73, 68, 32] ++ Lib.decDigits r.uid = p2 at *
  generalize [82, 70, 67, 56, 50, 50, 46, 83, 73, 90, 69, 32] ++ Lib.decDigits r.size = p4 at *
  generalize hL : literalL r.body = L at *
  clear hL
  generalize [66, 79, 68, 89, 91, 93, 32] ++ L = p16 at *
  go_enter Tryz.func71, Tryz.ntmps71
  go_upto_region 3 with (fail)
  rw [HW1.out]
  clear HW1 BX
  obtain ⟨-, -, -, -, -, -, x6, -, -, -⟩ := BX2.out.cells
  go_wp2_with fail
  refine (FL.out _).mono ?_
  rintro e w2 ⟨rfl, hb⟩
  have HB2 := Lib.hid (below_next B0.out hb)
  have R2 := Lib.hid (BX2.out.below hb)
  have P2 := Lib.hid (P0.out.below hb)
  clear hb x6 FL B0 BX2 P0
  go_wp2_with fail
  refine (PU.out _ _ p1 _ 1 b1 EE.out.1 H1.out (by decide) R2.out P2.out).mono ?_
  rintro e w3 ⟨rfl, hP, hb⟩
  have HB3 := Lib.hid (HB2.out.trans (hb.mono (Nat.le_succ _)))
  have R3 := Lib.hid (R2.out.under hb (Nat.lt_succ_self _))
  have P3 := Lib.hid hP
  clear hb hP R2 P2 HB2
  obtain ⟨-, -, -, -, -, -, -, x7, -, -⟩ := R3.out.cells
  go_wp2_with fail
  refine (DU.out _ HB3.out).mono ?_
  rintro e w4 ⟨rfl, hb⟩
  have HB4 := Lib.hid (below_next HB3.out hb)
  have R4 := Lib.hid (R3.out.below hb)
  have P4 := Lib.hid (P3.out.below hb)
  clear hb x7 R3 P3 HB3
  go_wp2_with fail
  refine (PU.out _ _ p2 _ 2 b2 EE.out.2.1 H2.out (Nat.le_trans (if_len (n := 0) (Nat.le_refl _)) (by decide)) R4.out P4.out).mono ?_
  rintro e w5 ⟨rfl, hP, hb⟩
  have HB5 := Lib.hid (HB4.out.trans (hb.mono (Nat.le_succ _)))
  have R5 := Lib.hid (R4.out.under hb (Nat.lt_succ_self _))
  have P5 := Lib.hid hP
  clear hb hP R4 P4 HB4
  obtain ⟨-, -, -, -, -, -, -, -, x8, -⟩ := R5.out.cells
  go_wp2_with fail
  refine (DZ.out _ HB5.out).mono ?_
  rintro e w6 ⟨rfl, hb⟩
  have HB6 := Lib.hid (below_next HB5.out hb)
  have R6 := Lib.hid (R5.out.below hb)
  have P6 := Lib.hid (P5.out.below hb)
  clear hb x8 R5 P5 HB5
  go_wp2_with fail
  refine (PU.out _ _ p4 _ 4 b4 EE.out.2.2.1 H4.out (Nat.le_trans (if_len (if_len (n := 0) (Nat.le_refl _))) (by decide)) R6.out P6.out).mono ?_
  rintro e w7 ⟨rfl, hP, hb⟩
  have HB7 := Lib.hid (HB6.out.trans (hb.mono (Nat.le_succ _)))
  have R7 := Lib.hid (R6.out.under hb (Nat.lt_succ_self _))
  have P7 := Lib.hid hP
  clear hb hP R6 P6 HB6
  obtain ⟨-, -, -, -, -, -, -, -, -, x9⟩ := R7.out.cells
  go_wp2_with fail
  refine (LT.out _ HB7.out).mono ?_
  rintro e w8 ⟨A', c', rfl, hby, hb⟩
  have HB8 := Lib.hid (below_next HB7.out hb)
  have R8 := Lib.hid (R7.out.below hb)
  have P8 := Lib.hid (P7.out.below hb)
  obtain ⟨n8, hn8⟩ : ∃ n, L.length = n := ⟨_, rfl⟩
  have cv := convS _ w8 A' c' n8 L hby hn8
  rw [hn8]
  generalize ByteArray.mk L.toArray = dL at *
  clear hb x9 hby hn8 R7 P7 HB7
  go_wp2_with fail
  refine (PU.out _ _ p16 _ 16 b16 EE.out.2.2.2 H16.out (Nat.le_trans (if_len (if_len (if_len (n := 0) (Nat.le_refl _)))) (by decide)) R8.out P8.out).mono ?_
  rintro e w9 ⟨rfl, hP, hb⟩
  rw [← HPS.out] at hP
  have HB9 := Lib.hid (HB8.out.trans (hb.mono (Nat.le_succ _)))
  have R9 := Lib.hid (R8.out.under hb (Nat.lt_succ_self _))
  have hlt1 := R9.out.lt
  obtain ⟨-, x1, -, -, -, -, -, -, -, -⟩ := R9.out.cells
  obtain ⟨⟨Ap, kp, hbs, ho⟩, hl1, hl2⟩ := hP
  have y0 := cell_of_row w9 (w.heap.size + 1) 0 _ _ _ hbs
  have hlt2 : w.heap.size + 1 < w9.heap.size := by omega
  have HO := Lib.hid ho
  obtain ⟨np, hnp⟩ : ∃ n, ps.length = n := ⟨_, rfl⟩
  have J := fun W (hW : Below w9.heap.size w9 W) => (joinS_any ps (.slice Ap ps.length kp) _ W (own_below HO.out hW) (by have := HP4.out; omega) (by have := HSP.out; have := HP4.out; omega)).mono fun e' w' (q : e' = .returned (.string ⟨(spL ps).toArray⟩) ∧ Below W.heap.size W w') => (⟨q.1, below_next hW q.2⟩ : e' = .returned (.string ⟨(spL ps).toArray⟩) ∧ Below w9.heap.size w9 w')
  have hsj : (ByteArray.mk (spL ps).toArray).size ≤ 100000 := by have h1 := HSP.out; have h2 := HP4.out; have : (spL ps).length ≤ 100000 := by omega
                                                                 simpa [ByteArray.size] using this
  rw [hnp] at J y0
  generalize hdJ : ByteArray.mk (spL ps).toArray = dJ at *
  have HDJ := Lib.hid hdJ
  clear hdJ
  have J := Lib.hid J
  have D2 := Lib.hid (fun W (hW : Below w9.heap.size w9 W) => (DN.out W (below_next HB9.out hW)).mono fun e' w' (q : e' = .returned (.string dN) ∧ Below W.heap.size W w') => (⟨q.1, below_next hW q.2⟩ : e' = .returned (.string dN) ∧ Below w9.heap.size w9 w'))
  have HBW := Lib.hid (show ∀ W, Below w9.heap.size w9 W → W.cell? ⟨w.heap.size + 1, 0, none⟩ = some (.slice Ap np kp) ∧ W.cell? ⟨w.heap.size, 1, none⟩ = some (.int .u32 (r.n : Int)) ∧ Below w9.heap.size w9 W from fun W hW => ⟨(hW.cell (p := ⟨w.heap.size + 1, 0, none⟩) hlt2).trans y0, (hW.cell (p := ⟨w.heap.size, 1, none⟩) hlt1).trans x1, hW⟩)
  have z1 : (ByteArray.mk #[42, 32] ++ dN).size ≤ 12 := by rw [ByteArray.size_append]; show 2 + dN.size ≤ 12; omega
  have z2 : (ByteArray.mk #[42, 32] ++ dN ++ ByteArray.mk #[32, 70, 69, 84, 67, 72, 32, 40]).size ≤ 20 := by rw [ByteArray.size_append]; show _ + 8 ≤ 20; omega
  have z3 : (ByteArray.mk #[42, 32] ++ dN ++ ByteArray.mk #[32, 70, 69, 84, 67, 72, 32, 40] ++ dJ).size ≤ 100020 := by rw [ByteArray.size_append]; omega
  have s1 : ∀ W, (Op.stringOp BinOp.add (ByteArray.mk #[42, 32]) dN).run Tryz.prog W = .ok (.string (ByteArray.mk #[42, 32] ++ dN)) W := fun W => run_string_add_sum W _ _ (by show 2 + dN.size ≤ _; omega)
  have s2 : ∀ W, (Op.stringOp BinOp.add (ByteArray.mk #[42, 32] ++ dN) (ByteArray.mk #[32, 70, 69, 84, 67, 72, 32, 40])).run Tryz.prog W = .ok (.string (ByteArray.mk #[42, 32] ++ dN ++ ByteArray.mk #[32, 70, 69, 84, 67, 72, 32, 40])) W := fun W => run_string_add_sum W _ _ (by show _ + 8 ≤ _; omega)
  have s3 : ∀ W, (Op.stringOp BinOp.add (ByteArray.mk #[42, 32] ++ dN ++ ByteArray.mk #[32, 70, 69, 84, 67, 72, 32, 40]) dJ).run Tryz.prog W = .ok (.string (ByteArray.mk #[42, 32] ++ dN ++ ByteArray.mk #[32, 70, 69, 84, 67, 72, 32, 40] ++ dJ)) W := fun W => run_string_add_sum W _ _ (by omega)
  have s4 : ∀ W, (Op.stringOp BinOp.add (ByteArray.mk #[42, 32] ++ dN ++ ByteArray.mk #[32, 70, 69, 84, 67, 72, 32, 40] ++ dJ) (ByteArray.mk #[41])).run Tryz.prog W = .ok (.string (ByteArray.mk #[42, 32] ++ dN ++ ByteArray.mk #[32, 70, 69, 84, 67, 72, 32, 40] ++ dJ ++ ByteArray.mk #[41])) W := fun W => run_string_add_sum W _ _ (by show _ + 1 ≤ _; omega)
  clear hb x1 y0 hbs ho hl1 hl2 hlt1 hlt2 R8 P8 HB8 cv hnp HO R9 DN DU DZ LT PU EE H1 H2 H4 H16 HPS HP4 HSP hsl hsu hsz hst hsn hsj z1 z2 z3
  go_wp2_with fail
  go_region_held3 (fun w' => w'.cell? ⟨w.heap.size + 1, 0, none⟩ = some (.slice Ap np kp) ∧ w'.cell? ⟨w.heap.size, 1, none⟩ = some (.int .u32 (r.n : Int)) ∧ Below w9.heap.size w9 w')
    ((refine HBW.out _ ?_; repeat (first | assumption | exact Below.refl _ _ | refine belDrawN ?_ _ | refine belDraw ?_)))
    (first
      | (go_at_call 89; refine (D2.out _ (by repeat (first | assumption | exact Below.refl _ _ | refine belDrawN ?_ _ | refine belDraw ?_))).mono ?_; rintro e' w5 ⟨rfl, hb5⟩)
      | (go_at_call 81; refine (J.out _ (by repeat (first | assumption | exact Below.refl _ _ | refine belDrawN ?_ _ | refine belDraw ?_))).mono ?_; rintro e' w6 ⟨rfl, hb6⟩))
  all_goals
    go_wp2_with fail
    go_ret
    exact ⟨by rw [HDJ.out]; rfl, below_next HB9.out (by assumption)⟩
end Go.Proofs.YtpoejnajnaolpaaGreatDoor

namespace Go.Proofs.YtpoejnajnaolpaaGreatDoor
open Go.RowKit

set_option maxRecDepth 100000 in
set_option maxHeartbeats 1000000 in
theorem text3_go (kind n status items flags uid size : Int) (tag text : ByteArray) (A : Option Addr) (m k : Nat) (b : Nat) (p : ByteArray) (hp : p.size ≤ 3000) (ht : text.size ≤ 3000) (w : World) (hb : b < w.heap.size) (c0 : w.cell? ⟨b, 0, none⟩ = some (.string p)) :
    Calls Tryz.prog 98 #[.agg #[.int .i64 kind, .int .u32 n, .string tag, .int .i64 status, .string text, .int .i64 items, .int .u8 flags, .int .u32 uid, .int .u32 size, .slice A m k], .pointer (some ⟨b, 0, none⟩)] w fun e w' => e = .returned (.string (p ++ text)) ∧ Below w.heap.size w w' := by
  go_enter Tryz.func98, Tryz.ntmps98
  go_wp2_with fail
  go_ret
  exact ⟨rfl, below_al _ _⟩
set_option maxRecDepth 100000 in
set_option maxHeartbeats 1000000 in
theorem flags2_go (kind n status items flags uid size : Int) (tag text : ByteArray) (A : Option Addr) (m k : Nat) (w : World) :
    Calls Tryz.prog 94 #[.agg #[.int .i64 kind, .int .u32 n, .string tag, .int .i64 status, .string text, .int .i64 items, .int .u8 flags, .int .u32 uid, .int .u32 size, .slice A m k]] w fun e w' => e = .returned (.string (⟨#[42, 32, 70, 76, 65, 71, 83, 32]⟩ ++ ⟨(listL 31).toArray⟩)) ∧ Below w.heap.size w w' := by
  have FL := flist_any 31 (by omega)
  have hz : (ByteArray.mk (listL 31).toArray).size ≤ 3000 := by decide
  generalize ByteArray.mk (listL 31).toArray = L at *
  have FL := Lib.hid FL
  go_enter Tryz.func94, Tryz.ntmps94
  go_wp2_with fail
  refine (FL.out _).mono ?_
  rintro e w1 ⟨rfl, hb⟩
  go_wp2_with fail
  go_ret
  exact ⟨rfl, below_next (below_al _ _) hb⟩

def statA : Value := .agg #[.string ⟨#[79, 75]⟩, .string ⟨#[78, 79]⟩, .string ⟨#[66, 65, 68]⟩]
theorem stat_ix (w : World) : (Instr.index 84 statA (.int .i64 0)).run Tryz.prog w = .ok (.string ⟨#[79, 75]⟩) w ∧ (Instr.index 84 statA (.int .i64 1)).run Tryz.prog w = .ok (.string ⟨#[78, 79]⟩) w ∧ (Instr.index 84 statA (.int .i64 2)).run Tryz.prog w = .ok (.string ⟨#[66, 65, 68]⟩) w := by
  refine ⟨?_, ?_, ?_⟩ <;> kernel_rfl
set_option maxRecDepth 100000 in
set_option maxHeartbeats 2000000 in
theorem tagged3_go (kind n status items flags uid size : Int) (tag text : ByteArray) (A : Option Addr) (m k : Nat) (h0 : 0 ≤ status) (h2 : status ≤ 2) (ht : text.size ≤ 3000) (hg : tag.size ≤ 3000) (w : World) :
    Calls Tryz.prog 76 #[.agg #[.int .i64 kind, .int .u32 n, .string tag, .int .i64 status, .string text, .int .i64 items, .int .u8 flags, .int .u32 uid, .int .u32 size, .slice A m k]] w fun e w' => e = .returned (.string (tag ++ ⟨#[32]⟩ ++ ⟨(rsStat status).toArray⟩ ++ ⟨#[32]⟩ ++ text)) ∧ Below w.heap.size w w' := by
  obtain ⟨i0, i1, i2⟩ := stat_ix (w.alloc (.cells #[.int .i64 kind, .int .u32 n, .string tag, .int .i64 status, .string text, .int .i64 items, .int .u8 flags, .int .u32 uid, .int .u32 size, .slice A m k] 27))
  unfold statA at *
  have hc : status = 0 ∨ status = 1 ∨ status = 2 := by omega
  rcases hc with rfl | rfl | rfl
  all_goals
    go_enter Tryz.func76, Tryz.ntmps76
    go_wp2_with fail
    go_ret
    exact ⟨rfl, below_al _ _⟩

set_option maxRecDepth 100000 in
set_option maxHeartbeats 2000000 in
theorem count2_go (n : Nat) (kind status items flags uid size : Int) (tag text : ByteArray) (A : Option Addr) (m k : Nat) (b : Nat) (p : ByteArray) (hp : p.size ≤ 3000) (hn : n ≤ 4294967295) (w : World) (henv : Env w) (hb : b < w.heap.size) (c0 : w.cell? ⟨b, 0, none⟩ = some (.string p)) :
    Calls Tryz.prog 88 #[.agg #[.int .i64 kind, .int .u32 n, .string tag, .int .i64 status, .string text, .int .i64 items, .int .u8 flags, .int .u32 uid, .int .u32 size, .slice A m k], .pointer (some ⟨b, 0, none⟩)] w fun e w' => e = .returned (.string (⟨#[42, 32]⟩ ++ ⟨(Lib.decDigits n).toArray⟩ ++ ⟨#[32]⟩ ++ p)) ∧ Below w.heap.size w w' := by
  have hB0 := below_al w (.cells #[.int .i64 kind, .int .u32 n, .string tag, .int .i64 status, .string text, .int .i64 items, .int .u8 flags, .int .u32 uid, .int .u32 size, .slice A m k] 27)
  have hbx := heap_alloc_new w (.cells #[.int .i64 kind, .int .u32 n, .string tag, .int .i64 status, .string text, .int .i64 items, .int .u8 flags, .int .u32 uid, .int .u32 size, .slice A m k] 27)
  have x0 := (hB0.cell (p := ⟨b, 0, none⟩) hb).trans c0
  obtain ⟨-, x1, -, -, -, -, -, -, -, -⟩ := cells10 hbx
  have D := fun W (hW : Below w.heap.size w W) => decimal_any n hn W (henv.below hW)
  have hz : (ByteArray.mk (Lib.decDigits n).toArray).size ≤ 10 := by have := dec_len hn; simpa [ByteArray.size] using this
  have hlt0 : b < (w.alloc (.cells #[.int .i64 kind, .int .u32 n, .string tag, .int .i64 status, .string text, .int .i64 items, .int .u8 flags, .int .u32 uid, .int .u32 size, .slice A m k] 27)).heap.size := by rw [World.size_alloc]; omega
  have hlt1 : w.heap.size < (w.alloc (.cells #[.int .i64 kind, .int .u32 n, .string tag, .int .i64 status, .string text, .int .i64 items, .int .u8 flags, .int .u32 uid, .int .u32 size, .slice A m k] 27)).heap.size := by rw [World.size_alloc]; omega
  generalize ByteArray.mk (Lib.decDigits n).toArray = d at *
  have D := Lib.hid D
  have HB0 := Lib.hid hB0
  clear henv hB0 hbx c0
  go_enter Tryz.func88, Tryz.ntmps88
  go_wp2_with fail
  generalize w.alloc (.cells #[.int .i64 kind, .int .u32 n, .string tag, .int .i64 status, .string text, .int .i64 items, .int .u8 flags, .int .u32 uid, .int .u32 size, .slice A m k] 27) = w1 at *
  have HBW : ∀ W, Below w1.heap.size w1 W → W.cell? ⟨b, 0, none⟩ = some (.string p) ∧ W.cell? ⟨w.heap.size, 1, none⟩ = some (.int .u32 (n : Int)) ∧ Below w1.heap.size w1 W := fun W hW => ⟨(hW.cell (p := ⟨b, 0, none⟩) hlt0).trans x0, (hW.cell (p := ⟨w.heap.size, 1, none⟩) hlt1).trans x1, hW⟩
  have HBW := Lib.hid HBW
  have HL1 := Lib.hid hlt0
  have HL2 := Lib.hid hlt1
  have D2 := Lib.hid (fun W (hW : Below w1.heap.size w1 W) => (D.out W (below_next HB0.out hW)).mono fun e' w' (q : e' = .returned (.string d) ∧ Below W.heap.size W w') => (⟨q.1, below_next hW q.2⟩ : e' = .returned (.string d) ∧ Below w1.heap.size w1 w'))
  have z1 : (ByteArray.mk #[42, 32] ++ d).size ≤ 12 := by rw [ByteArray.size_append]; show 2 + d.size ≤ 12; omega
  have z2 : (ByteArray.mk #[42, 32] ++ d ++ ByteArray.mk #[32]).size ≤ 13 := by rw [ByteArray.size_append]; show _ + 1 ≤ 13; omega
  have s1 : ∀ W, (Op.stringOp BinOp.add (ByteArray.mk #[42, 32]) d).run Tryz.prog W = .ok (.string (ByteArray.mk #[42, 32] ++ d)) W := fun W => run_string_add_sum W _ _ (by show 2 + d.size ≤ _; omega)
  have s2 : ∀ W, (Op.stringOp BinOp.add (ByteArray.mk #[42, 32] ++ d) (ByteArray.mk #[32])).run Tryz.prog W = .ok (.string (ByteArray.mk #[42, 32] ++ d ++ ByteArray.mk #[32])) W := fun W => run_string_add_sum W _ _ (by show _ + 1 ≤ _; omega)
  have s3 : ∀ W, (Op.stringOp BinOp.add (ByteArray.mk #[42, 32] ++ d ++ ByteArray.mk #[32]) p).run Tryz.prog W = .ok (.string (ByteArray.mk #[42, 32] ++ d ++ ByteArray.mk #[32] ++ p)) W := fun W => run_string_add_sum W _ _ (by omega)
  clear hlt0 hlt1 hb x0 x1 D
  go_region_held3 (fun w' => w'.cell? ⟨b, 0, none⟩ = some (.string p) ∧ w'.cell? ⟨w.heap.size, 1, none⟩ = some (.int .u32 (n : Int)) ∧ Below w1.heap.size w1 w')
    ((refine HBW.out _ ?_; repeat (first | assumption | exact Below.refl _ _ | refine belDrawN ?_ _ | refine belDraw ?_)))
    ((go_at_call 89; refine (D2.out _ (by repeat (first | assumption | exact Below.refl _ _ | refine belDrawN ?_ _ | refine belDraw ?_))).mono ?_; rintro e' w5 ⟨rfl, hb5⟩))
  all_goals
    go_wp2_with fail
    go_ret
    exact ⟨rfl, below_next HB0.out (by assumption)⟩
end Go.Proofs.YtpoejnajnaolpaaGreatDoor
