/- The reference of layer 9: num, items. -/
import Derived.Test.YtpoejnajnaolpaaGreatDoorGb
import Derived.Test.YtpoejnajnaolpaaGreatDoorGg
import Derived.Test.YtpoejnajnaolpaaGreatDoorGl
import Derived.Deep.Cut
import Derived.Deep.DeepCutAuto
namespace Go.Proofs.YtpoejnajnaolpaaGreatDoor
open Go.RowKit

theorem rnum9_any (n : Nat) (hn : n ≤ 4294967295) (w : World) :
    Calls Tryz.prog 45 #[.int .u32 (n : Int)] w fun e w' => e = .returned (.string ⟨(Lib.decDigits n).toArray⟩) ∧ w = w' := by
  have D := Lib.hid (refDecimal_any n hn w)
  go_enter Tryz.func45, Tryz.ntmps45
  go_wp2_with fail
  refine D.out.mono ?_
  rintro e w1 ⟨rfl, rfl⟩
  go_wp2_with fail
  go_ret
  exact ⟨rfl, rfl⟩

/-- The parts that the reference has collected. -/
structure Col9 (r : RI) (A : Option Addr) (k : Nat) (w : World) (ps : List (List UInt8)) (Ap : Option Addr) (n c : Nat) (W : World) : Prop where
  own : W.ownsRow (w.heap.size + 1) 9 1 (.slice Ap n c) n (flatL encS ps)
  len : ps.length = n
  box : RsBox w.heap.size r A k W
  bel : Below w.heap.size w W
  siz : w.heap.size + 1 ≤ W.heap.size
theorem Col9.below {r : RI} {A : Option Addr} {k : Nat} {w : World} {ps : List (List UInt8)} {Ap : Option Addr} {n c : Nat} {W W' : World} (h : Col9 r A k w ps Ap n c W) (hb : Below W.heap.size W W') : Col9 r A k w ps Ap n c W' :=
  ⟨own_below h.own hb, h.len, h.box.below hb, below_next h.bel hb, Nat.le_trans h.siz hb.size⟩
theorem Col9.snoc {r : RI} {A : Option Addr} {k : Nat} {w : World} {ps : List (List UInt8)} {p : List UInt8} {Ap A3 : Option Addr} {n c c3 m : Nat} {W w3 : World} {o : Obj} (h : Col9 r A k w ps Ap n c W) (hown : w3.ownsRow (w.heap.size + 1) 9 1 (.slice A3 m c3) m (flatL encS ps ++ encS p)) (hm : m = n + 1) (hg : (W.alloc o).grownBy w3 (Value.ownBlock (.slice Ap n c))) :
    Col9 r A k w (ps ++ [p]) A3 m c3 w3 := by
  subst hm
  have hor : ∀ j, Value.ownBlock (.slice Ap n c) = some j → w.heap.size + 1 ≤ j := fun j hj => (h.own.lt j hj).1
  have hz := hg.size
  rw [World.size_alloc] at hz
  refine ⟨by rw [flatL_append]; simpa [flatL] using hown, by rw [List.length_append, h.len]; rfl, ?_, ?_, by have := h.siz; omega⟩
  · exact (hg.block w.heap.size (by have := h.siz; simp; omega) (fun e => by have := hor _ e.symm; omega)).trans (((below_al W o).block w.heap.size h.box.lt).trans h.box)
  · exact (below_next h.bel (below_al W o)).grown hg (by have := h.siz; simp; omega) (fun j hj => by have := hor j hj; omega)

set_option maxRecDepth 100000 in
set_option maxHeartbeats 1000000 in
theorem ritems9_any (r : RI) (A : Option Addr) (k : Nat) (hr : RIok r) (hs : RIsm r) (hne : rsParts r ≠ []) (w : World) (hA : ByAt w.heap.size w A k r.body) :
    Calls Tryz.prog 46 #[rsV r A k] w fun e w' => e = .returned (.string ⟨(spL (rsParts r)).toArray⟩) ∧ Below w.heap.size w w' := by
  obtain ⟨i0, hi, hz0, hz1, hz2⟩ := info_parts infoS
  obtain ⟨hpl, hpm⟩ := parts_len r hs hr.uid hr.size
  have FL := Lib.hid (fun W => refList8_any r.flags (by have := hr.flags; omega) W)
  have DU := Lib.hid (fun W => rnum9_any r.uid hr.uid W)
  have DZ := Lib.hid (fun W => rnum9_any r.size hr.size W)
  have LT := Lib.hid (fun W (h : Below w.heap.size w W) => refLiteral_any _ A k r.body (by have := hs.body; omega) W (hA.below h))
  have hsl : (ByteArray.mk (listL r.flags).toArray).size ≤ 52 := by have := list_len r.flags; simpa [ByteArray.size] using this
  have hsu : (ByteArray.mk (Lib.decDigits r.uid).toArray).size ≤ 10 := by have := dec_len hr.uid; simpa [ByteArray.size] using this
  have hsz : (ByteArray.mk (Lib.decDigits r.size).toArray).size ≤ 10 := by have := dec_len hr.size; simpa [ByteArray.size] using this
  have hst : (ByteArray.mk (literalL r.body).toArray).size ≤ 4000 := by
    have h4 := headL_len (n := r.body.length) (by have := hs.body; omega)
    have h5 := hs.body
    have : (literalL r.body).length ≤ 4000 := by unfold literalL; rw [List.length_append]; omega
    simpa [ByteArray.size] using this
  have C0 := Lib.hid (show Col9 r A k w [] none 0 0 (w.alloc (.cells #[.int .i64 r.kind, .int .u32 (r.n : Int), .string ⟨r.tag.toArray⟩, .int .i64 r.status, .string ⟨r.text.toArray⟩, .int .i64 r.items, .int .u8 (r.flags : Int), .int .u32 (r.uid : Int), .int .u32 (r.size : Int), .slice A r.body.length k] 27)) from ⟨World.ownsRow_nil _ _ _ _, rfl, RsBox.new w r A k, below_al w _, by simp⟩)
  obtain ⟨b1, hb1⟩ : ∃ q, rsBit r.items 1 = q := ⟨_, rfl⟩
  obtain ⟨b2, hb2⟩ : ∃ q, rsBit r.items 2 = q := ⟨_, rfl⟩
  obtain ⟨b4, hb4⟩ : ∃ q, rsBit r.items 4 = q := ⟨_, rfl⟩
  obtain ⟨b16, hb16⟩ : ∃ q, rsBit r.items 16 = q := ⟨_, rfl⟩
  have HPS : Hid (rsParts r = (((([] ++ if b1 = true then [[70, 76, 65, 71, 83, 32] ++ listL r.flags] else []) ++ if b2 = true then [[85, 73, 68, 32] ++ Lib.decDigits r.uid] else []) ++ if b4 = true then [[82, 70, 67, 56, 50, 50, 46, 83, 73, 90, 69, 32] ++ Lib.decDigits r.size] else []) ++ if b16 = true then [[66, 79, 68, 89, 91, 93, 32] ++ literalL r.body] else [])) := Lib.hid (by
    unfold rsParts
    rw [hb1, hb2, hb4, hb16]
    simp only [List.nil_append, List.append_assoc])
  have e1 : ByteArray.mk #[70, 76, 65, 71, 83, 32] ++ ByteArray.mk (listL r.flags).toArray = ⟨([70, 76, 65, 71, 83, 32] ++ listL r.flags).toArray⟩ := cat9 [70, 76, 65, 71, 83, 32] (listL r.flags)
  have e2 : ByteArray.mk #[85, 73, 68, 32] ++ ByteArray.mk (Lib.decDigits r.uid).toArray = ⟨([85, 73, 68, 32] ++ Lib.decDigits r.uid).toArray⟩ := cat9 _ _
  have e4 : ByteArray.mk #[82, 70, 67, 56, 50, 50, 46, 83, 73, 90, 69, 32] ++ ByteArray.mk (Lib.decDigits r.size).toArray = ⟨([82, 70, 67, 56, 50, 50, 46, 83, 73, 90, 69, 32] ++ Lib.decDigits r.size).toArray⟩ := cat9 _ _
  have e16 : ByteArray.mk #[66, 79, 68, 89, 91, 93, 32] ++ ByteArray.mk (literalL r.body).toArray = ⟨([66, 79, 68, 89, 91, 93, 32] ++ literalL r.body).toArray⟩ := cat9 _ _
  have EE := Lib.hid (And.intro e1 (And.intro e2 (And.intro e4 e16)))
  have hb1' : (bits BinOp.and IntKind.i64 r.items 1 != 0) = b1 := hb1
  have hb2' : (bits BinOp.and IntKind.i64 r.items 2 != 0) = b2 := hb2
  have hb4' : (bits BinOp.and IntKind.i64 r.items 4 != 0) = b4 := hb4
  have hb16' : (bits BinOp.and IntKind.i64 r.items 16 != 0) = b16 := hb16
  have HPL := Lib.hid (And.intro hpl (And.intro hpm hne))
  have hfl : r.flags ≤ 255 := hr.flags
  have hwf : IntKind.i64.wrap (r.flags : Int) = (r.flags : Int) := wrap_i64_nat r.flags (by omega)
  clear hb1 hb2 hb4 hb16 hA hr hs e1 e2 e4 e16 hpl hpm hne
  generalize [70, 76, 65, 71, 83, 32] ++ listL r.flags = p1 at *
  generalize [85, 73, 68, 32] ++ Lib.decDigits r.uid = p2 at *
  generalize [82, 70, 67, 56, 50, 50, 46, 83, 73, 90, 69, 32] ++ Lib.decDigits r.size = p4 at *
  generalize ByteArray.mk (listL r.flags).toArray = dF at *
  generalize ByteArray.mk (Lib.decDigits r.uid).toArray = dU at *
  generalize ByteArray.mk (Lib.decDigits r.size).toArray = dZ at *
  generalize hL : literalL r.body = L at *
  clear hL
  generalize [66, 79, 68, 89, 91, 93, 32] ++ L = p16 at *
  generalize hdL : ByteArray.mk L.toArray = dL at *
  have HDL := Lib.hid hdL
  clear hdL
  unfold rsV
  go_enter Tryz.func46, Tryz.ntmps46
  go_upto_region 1 with (fail)
  go_cut [3] (fun s3 wx => ∃ Ap c, s3 = .slice Ap 0 c ∧ Hid (Col9 r A k w [] Ap 0 c wx))
  case first =>
    go_wp2_with fail
    go_meet
    exact ⟨none, 0, rfl, C0⟩
  case rest =>
  clear C0
  obtain ⟨A0, c0, rfl, C0⟩ := hcut
  obtain ⟨-, -, -, -, -, x5, -, -, -, -⟩ := C0.out.box.cells
  go_upto_if 9 with (fail)
  clear x5
  go_cut [3] (fun s3 wx => ∃ Ap n c, s3 = .slice Ap n c ∧ n ≤ 1 ∧ Hid (Col9 r A k w ([] ++ if b1 = true then [p1] else []) Ap n c wx))
  case first =>
    cases b1 with
    | false =>
      go_wp2_with fail
      go_meet
      exact ⟨A0, 0, c0, rfl, by omega, by simpa using C0⟩
    | true =>
      obtain ⟨-, -, -, -, -, -, x6, x7, x8, x9⟩ := C0.out.box.cells
      go_wp2_with fail
      refine (FL.out _).mono ?_
      rintro e w2 ⟨rfl, rfl⟩
      have D1 := C0
      have HSZ := Lib.hid D1.out.siz
      have HOW := Lib.hid D1.out.own
      have HE : Hid (encS p1 = [.string ⟨p1.toArray⟩]) := Lib.hid rfl
      rw [← EE.out.1] at HE
      clear x6 x7 x8 x9
      go_wp2_with (at_builtin; refine wpList_append_own _ rfl _ _ 71 rfl (w.heap.size + 1) 9 i0 _ 1 16 Tryz.underlying71 hi hz0 hz1 hz2 rfl (by decide) _ 0 _ rfl (HOW.out.alloc _) ⟨_, 0, none⟩ 1 1 (encS p1) rfl rfl (by rw [HE.out]; exact cell_one_new _ _ _) (by intro u hu; rw [HE.out] at hu; simp at hu; subst hu; rfl) (by unfold maxLen; omega) (by omega) (by have := HSZ.out; simp; omega) ?_; intro v' w8 hown' hgrow _; obtain ⟨A3, k3, rfl⟩ := own_any hown'; have D2 := Lib.hid (Col9.snoc D1.out hown' rfl hgrow); clear hown' hgrow)
      go_meet
      exact ⟨A3, _, k3, rfl, by omega, by simpa using D2⟩
  case rest =>
  obtain ⟨A1, n1, c1, rfl, hn1, C1⟩ := hcut
  clear C0
  obtain ⟨-, -, -, -, -, x5, -, -, -, -⟩ := C1.out.box.cells
  go_upto_if 21 with (fail)
  clear x5
  go_cut [3] (fun s3 wx => ∃ Ap n c, s3 = .slice Ap n c ∧ n ≤ 2 ∧ Hid (Col9 r A k w (([] ++ if b1 = true then [p1] else []) ++ if b2 = true then [p2] else []) Ap n c wx))
  case first =>
    cases b2 with
    | false =>
      go_wp2_with fail
      go_meet
      exact ⟨A1, n1, c1, rfl, by omega, by simpa using C1⟩
    | true =>
      obtain ⟨-, -, -, -, -, -, x6, x7, x8, x9⟩ := C1.out.box.cells
      go_wp2_with fail
      refine (DU.out _).mono ?_
      rintro e w2 ⟨rfl, rfl⟩
      have D1 := C1
      have HSZ := Lib.hid D1.out.siz
      have HOW := Lib.hid D1.out.own
      have HE : Hid (encS p2 = [.string ⟨p2.toArray⟩]) := Lib.hid rfl
      rw [← EE.out.2.1] at HE
      clear x6 x7 x8 x9
      go_wp2_with (at_builtin; refine wpList_append_own _ rfl _ _ 71 rfl (w.heap.size + 1) 9 i0 _ 1 16 Tryz.underlying71 hi hz0 hz1 hz2 rfl (by decide) _ n1 _ rfl (HOW.out.alloc _) ⟨_, 0, none⟩ 1 1 (encS p2) rfl rfl (by rw [HE.out]; exact cell_one_new _ _ _) (by intro u hu; rw [HE.out] at hu; simp at hu; subst hu; rfl) (by unfold maxLen; omega) (by omega) (by have := HSZ.out; simp; omega) ?_; intro v' w8 hown' hgrow _; obtain ⟨A3, k3, rfl⟩ := own_any hown'; have D2 := Lib.hid (Col9.snoc D1.out hown' rfl hgrow); clear hown' hgrow)
      go_meet
      exact ⟨A3, _, k3, rfl, by omega, by simpa using D2⟩
  case rest =>
  obtain ⟨A2, n2, c2, rfl, hn2, C2⟩ := hcut
  clear C1
  obtain ⟨-, -, -, -, -, x5, -, -, -, -⟩ := C2.out.box.cells
  go_upto_if 32 with (fail)
  clear x5
  go_cut [3] (fun s3 wx => ∃ Ap n c, s3 = .slice Ap n c ∧ n ≤ 3 ∧ Hid (Col9 r A k w ((([] ++ if b1 = true then [p1] else []) ++ if b2 = true then [p2] else []) ++ if b4 = true then [p4] else []) Ap n c wx))
  case first =>
    cases b4 with
    | false =>
      go_wp2_with fail
      go_meet
      exact ⟨A2, n2, c2, rfl, by omega, by simpa using C2⟩
    | true =>
      obtain ⟨-, -, -, -, -, -, x6, x7, x8, x9⟩ := C2.out.box.cells
      go_wp2_with fail
      refine (DZ.out _).mono ?_
      rintro e w2 ⟨rfl, rfl⟩
      have D1 := C2
      have HSZ := Lib.hid D1.out.siz
      have HOW := Lib.hid D1.out.own
      have HE : Hid (encS p4 = [.string ⟨p4.toArray⟩]) := Lib.hid rfl
      rw [← EE.out.2.2.1] at HE
      clear x6 x7 x8 x9
      go_wp2_with (at_builtin; refine wpList_append_own _ rfl _ _ 71 rfl (w.heap.size + 1) 9 i0 _ 1 16 Tryz.underlying71 hi hz0 hz1 hz2 rfl (by decide) _ n2 _ rfl (HOW.out.alloc _) ⟨_, 0, none⟩ 1 1 (encS p4) rfl rfl (by rw [HE.out]; exact cell_one_new _ _ _) (by intro u hu; rw [HE.out] at hu; simp at hu; subst hu; rfl) (by unfold maxLen; omega) (by omega) (by have := HSZ.out; simp; omega) ?_; intro v' w8 hown' hgrow _; obtain ⟨A3, k3, rfl⟩ := own_any hown'; have D2 := Lib.hid (Col9.snoc D1.out hown' rfl hgrow); clear hown' hgrow)
      go_meet
      exact ⟨A3, _, k3, rfl, by omega, by simpa using D2⟩
  case rest =>
  obtain ⟨A3, n3, c3, rfl, hn3, C3⟩ := hcut
  clear C2
  obtain ⟨-, -, -, -, -, x5, -, -, -, -⟩ := C3.out.box.cells
  go_upto_if 43 with (fail)
  clear x5
  go_cut [3] (fun s3 wx => ∃ Ap n c, s3 = .slice Ap n c ∧ n ≤ 4 ∧ Hid (Col9 r A k w (((([] ++ if b1 = true then [p1] else []) ++ if b2 = true then [p2] else []) ++ if b4 = true then [p4] else []) ++ if b16 = true then [p16] else []) Ap n c wx))
  case first =>
    cases b16 with
    | false =>
      go_wp2_with fail
      go_meet
      exact ⟨A3, n3, c3, rfl, by omega, by simpa using C3⟩
    | true =>
      obtain ⟨-, -, -, -, -, -, x6, x7, x8, x9⟩ := C3.out.box.cells
      go_wp2_with fail
      refine (LT.out _ C3.out.bel).mono ?_
      rintro e w2 ⟨A', c', rfl, hby, hb⟩
      obtain ⟨n8, hn8⟩ : ∃ n, L.length = n := ⟨_, rfl⟩
      have cv := convS _ w2 A' c' n8 L hby hn8
      rw [HDL.out] at cv
      rw [hn8]
      have D1 := Lib.hid (C3.out.below hb)
      clear hb hby hn8
      have HSZ := Lib.hid D1.out.siz
      have HOW := Lib.hid D1.out.own
      have HE : Hid (encS p16 = [.string ⟨p16.toArray⟩]) := Lib.hid rfl
      rw [← EE.out.2.2.2] at HE
      clear x6 x7 x8 x9
      go_wp2_with (at_builtin; refine wpList_append_own _ rfl _ _ 71 rfl (w.heap.size + 1) 9 i0 _ 1 16 Tryz.underlying71 hi hz0 hz1 hz2 rfl (by decide) _ n3 _ rfl (HOW.out.alloc _) ⟨_, 0, none⟩ 1 1 (encS p16) rfl rfl (by rw [HE.out]; exact cell_one_new _ _ _) (by intro u hu; rw [HE.out] at hu; simp at hu; subst hu; rfl) (by unfold maxLen; omega) (by omega) (by have := HSZ.out; simp; omega) ?_; intro v' w8 hown' hgrow _; obtain ⟨A3, k3, rfl⟩ := own_any hown'; have D2 := Lib.hid (Col9.snoc D1.out hown' rfl hgrow); clear hown' hgrow)
      go_meet
      exact ⟨A3, _, k3, rfl, by omega, by simpa using D2⟩
  case rest =>
  obtain ⟨A4, n4, c4, rfl, hn4, C4⟩ := hcut
  clear C3
  rw [← HPS.out] at C4
  have HSL := Lib.hid (show SlAt encS 1 wc A4 (rsParts r) from SlAt.of_own encS_len (by rw [C4.out.len]; exact C4.out.own))
  have hpos : 0 < (rsParts r).length := List.length_pos_iff.2 HPL.out.2.2
  have HLN := Lib.hid C4.out.len
  obtain ⟨b, off, rfl, -, hc⟩ := HSL.out.at_ hpos
  have y0 : wc.cell? ⟨b, off, none⟩ = some (.string ⟨((rsParts r)[0]).toArray⟩) := by simpa [encS] using hc 0 _ rfl
  have h0 : (ByteArray.mk ((rsParts r)[0]).toArray).size ≤ 9000 := by have := HPL.out.2.1 _ (List.getElem_mem hpos); simpa [ByteArray.size] using this
  have HD0 := Lib.hid (show ByteArray.mk ((rsParts r)[0]).toArray = ⟨(spL ((rsParts r).take 1)).toArray⟩ by
    rw [show (rsParts r).take 1 = [(rsParts r)[0]] from by rw [List.take_succ_eq_append_getElem hpos]; rfl, spL_one])
  have hn4p : 0 < n4 := by rw [← HLN.out]; exact hpos
  have hi0 : (0 : Int) < (n4 : Int) := by omega
  clear hc
  generalize ByteArray.mk ((rsParts r)[0]).toArray = d0 at *
  clear hpos
  go_wp2_with fail
  go_loop [4, 5] (fun s i => ∃ (j : Nat) (d : ByteArray), 1 ≤ j ∧ j ≤ n4 ∧ i = .int .i64 (j : Int) ∧ s = .string d ∧ d.size ≤ 9001 * j ∧ Hid (d = ⟨(spL ((rsParts r).take j)).toArray⟩)) (fun _ i => n4 - (intOf i).toNat)
  case atStart => exact ⟨1, d0, by omega, by omega, rfl, rfl, by omega, HD0⟩
  case round =>
    obtain ⟨j, d, hj1, hjn, rfl, rfl, hds, hd⟩ := hrel
    by_cases hlt : j < n4
    · have hjl : j < (rsParts r).length := by rw [HLN.out]; exact hlt
      obtain ⟨b', off', hA, -, hc⟩ := HSL.out.at_ hjl
      obtain ⟨rfl, rfl⟩ : b = b' ∧ off = off' := by injection hA with h; injection h with h1 h2; exact ⟨h1, h2⟩
      have y1 : wc.cell? ⟨b, off + j, none⟩ = some (.string ⟨((rsParts r)[j]).toArray⟩) := by simpa [encS] using hc 0 _ rfl
      have h1 : (ByteArray.mk ((rsParts r)[j]).toArray).size ≤ 9000 := by have := HPL.out.2.1 _ (List.getElem_mem hjl); simpa [ByteArray.size] using this
      have HD1 := Lib.hid (show d ++ ByteArray.mk #[32] ++ ByteArray.mk ((rsParts r)[j]).toArray = ⟨(spL ((rsParts r).take (j + 1))).toArray⟩ by
        rw [List.take_succ_eq_append_getElem hjl, spL_snoc (by intro e; have := congrArg List.length e; rw [List.length_take, Nat.min_eq_left (by omega), List.length_nil] at this; omega), hd.out]
        rw [show ByteArray.mk #[32] = ⟨([32] : List UInt8).toArray⟩ from rfl, cat9, cat9]
        congr 1
        simp)
      have hk0 : (0 : Int) ≤ (j : Int) := by omega
      have hk1 : (j : Int) < (n4 : Int) := by omega
      have hsz : (d ++ ByteArray.mk #[32] ++ ByteArray.mk ((rsParts r)[j]).toArray).size ≤ 9001 * (j + 1) := by
        rw [ByteArray.size_append, ByteArray.size_append]
        show d.size + 1 + _ ≤ _
        omega
      have HSZ := Lib.hid hsz
      clear hc hA hsz
      generalize ByteArray.mk ((rsParts r)[j]).toArray = d1 at *
      clear hjl
      go_wp2_with fail
      go_round
      case rel => exact ⟨j + 1, _, by omega, by omega, by go_num, rfl, HSZ.out, HD1⟩
      case measure => simp [intOf]; omega
    · obtain rfl : j = n4 := by omega
      have HT := Lib.hid (show (rsParts r).take j = rsParts r from List.take_of_length_le (by rw [HLN.out]; exact Nat.le_refl _))
      go_wp2_with fail
      go_ret
      exact ⟨by rw [hd.out, HT.out]; rfl, C4.out.bel⟩
end Go.Proofs.YtpoejnajnaolpaaGreatDoor
