/- reply: the reader in memory, the rest of its bytes, a word that is passed. -/
import Derived.Test.YtpoejnajnaolpaaGreatDoorGe
import Derived.Test.YtpoejnajnaolpaaGreatDoorRsSame
namespace Go.Proofs.YtpoejnajnaolpaaGreatDoor
open Go.RowKit

/-- What a reader's calls leave: every block that was there but its own two. -/
structure Rk (bb bp : Nat) (w w' : World) : Prop where
  os : w'.os = w.os
  tape : w'.tape = w.tape
  output : w'.output = w.output
  size : w.heap.size ≤ w'.heap.size
  block : ∀ k, k < w.heap.size → k ≠ bb → k ≠ bp → w'.heap[k]? = w.heap[k]?
section
variable {bb bp : Nat} {w w' w2 : World}
theorem Rk.refl (bb bp : Nat) (w : World) : Rk bb bp w w := ⟨rfl, rfl, rfl, Nat.le_refl _, fun _ _ _ _ => rfl⟩
theorem Rk.trans (h : Rk bb bp w w') (k : Rk bb bp w' w2) : Rk bb bp w w2 :=
  ⟨k.os.trans h.os, k.tape.trans h.tape, k.output.trans h.output, Nat.le_trans h.size k.size, fun i hi h1 h2 => (k.block i (Nat.lt_of_lt_of_le hi h.size) h1 h2).trans (h.block i hi h1 h2)⟩
theorem Rk.of_below (h : Below w.heap.size w w') : Rk bb bp w w' := ⟨h.os, h.tape, h.output, h.size, fun k hk _ _ => h.block k hk⟩
theorem Rk.of_bb (h : w.grownBy w' (some bb)) : Rk bb bp w w' := ⟨h.os, h.tape, h.output, h.size, fun k hk h1 _ => h.block k hk (fun e => h1 (Option.some.inj e))⟩
theorem Rk.of_bp (h : w.grownBy w' (some bp)) : Rk bb bp w w' := ⟨h.os, h.tape, h.output, h.size, fun k hk _ h2 => h.block k hk (fun e => h2 (Option.some.inj e))⟩
theorem Rk.below {B : Nat} (h : Rk bb bp w w') (h1 : B ≤ bb) (h2 : bb < bp) (h3 : B ≤ w.heap.size) : Below B w w' :=
  ⟨h.os, h.tape, h.output, h.size, fun k hk => h.block k (by omega) (by omega) (by omega)⟩
theorem Rk.at_ (h : Rk bb bp w w') {k : Nat} {o : Obj} (hk : w.heap[k]? = some o) (h1 : k ≠ bb) (h2 : k ≠ bp) : w'.heap[k]? = some o := (h.block k (Array.getElem?_eq_some_iff.1 hk).1 h1 h2).trans hk
end

/-- A reader in block bp, its rest in the box bb: the bytes that are left, the response so far, whether it is whole. -/
structure Rp (bb bp : Nat) (A : Option Addr) (c : Nat) (l : List UInt8) (r : RI) (Ab : Option Addr) (kb : Nat) (wh : Bool) (w : World) : Prop where
  box : w.heap[bb]? = some (.cells #[.slice A l.length c] 22 (0, 0))
  blk : w.heap[bp]? = some (.cells #[.func (Fn.func 36) #[] #[.pointer (some ⟨bb, 0, none⟩)], .int .i64 r.kind, .int .u32 (r.n : Int), .string ⟨r.tag.toArray⟩, .int .i64 r.status, .string ⟨r.text.toArray⟩, .int .i64 r.items, .int .u8 (r.flags : Int), .int .u32 (r.uid : Int), .int .u32 (r.size : Int), .slice Ab r.body.length kb, .bool wh] 55 (0, 0))
  lt : bb < bp
  lies : ByAt bb w A c l
  body : w.ownsRow (bp + 1) 5 1 (.slice Ab r.body.length kb) r.body.length (flatL encB r.body)

section
variable {bb bp c kb : Nat} {A Ab : Option Addr} {l : List UInt8} {r : RI} {wh : Bool} {w w' : World}
theorem Rp.here (h : Rp bb bp A c l r Ab kb wh w) : bb < w.heap.size ∧ bp < w.heap.size := ⟨(Array.getElem?_eq_some_iff.1 h.box).1, (Array.getElem?_eq_some_iff.1 h.blk).1⟩
theorem Rp.grow (h : Rp bb bp A c l r Ab kb wh w) (hb : Below w.heap.size w w') : Rp bb bp A c l r Ab kb wh w' :=
  ⟨(hb.block bb h.here.1).trans h.box, (hb.block bp h.here.2).trans h.blk, h.lt, h.lies.grow hb, own_below h.body hb⟩
theorem by_other {B b : Nat} (h : ByAt B w A c l) (hB : B ≤ w.heap.size) (hg : w.grownBy w' (some b)) (hb : B ≤ b) : ByAt B w' A c l := h.below ((Below.refl B w).grown hg hB (fun k e => by cases e; exact hb))
/-- Another rest. -/
theorem Rp.adv (h : Rp bb bp A c l r Ab kb wh w) {k : Nat} (hk : k ≤ l.length) : Rp bb bp (offA A c k) (c - k) (l.drop k) r Ab kb wh (w.setCell ⟨bb, 0, none⟩ (.slice (offA A c k) (l.length - k) (c - k))) := by
  have hg := grown_setCell w bb 0 (.slice (offA A c k) (l.length - k) (c - k))
  have hlt := h.lt
  refine ⟨?_, (hg.block bp h.here.2 (fun e => by have := Option.some.inj e; omega)).trans h.blk, h.lt, by_other (h.lies.drop hk) (Nat.le_of_lt h.here.1) hg (Nat.le_refl _), own_past9 h.body hg (by omega)⟩
  rw [Joins.block_setCell h.box, List.length_drop]
  rfl
/-- A field of the reader. -/
theorem Rp.put (h : Rp bb bp A c l r Ab kb wh w) {i : Nat} {v : Value} {r' : RI} {Ab' : Option Addr} {kb' : Nat} {wh' : Bool}
    (hb : (w.setCell ⟨bp, i, none⟩ v).heap[bp]? = some (.cells #[.func (Fn.func 36) #[] #[.pointer (some ⟨bb, 0, none⟩)], .int .i64 r'.kind, .int .u32 (r'.n : Int), .string ⟨r'.tag.toArray⟩, .int .i64 r'.status, .string ⟨r'.text.toArray⟩, .int .i64 r'.items, .int .u8 (r'.flags : Int), .int .u32 (r'.uid : Int), .int .u32 (r'.size : Int), .slice Ab' r'.body.length kb', .bool wh'] 55 (0, 0)))
    (ho : w.ownsRow (bp + 1) 5 1 (.slice Ab' r'.body.length kb') r'.body.length (flatL encB r'.body)) : Rp bb bp A c l r' Ab' kb' wh' (w.setCell ⟨bp, i, none⟩ v) := by
  have hg := grown_setCell w bp i v
  have hlt := h.lt
  exact ⟨(hg.block bb h.here.1 (fun e => by have := Option.some.inj e; omega)).trans h.box, hb, h.lt, by_other h.lies (Nat.le_of_lt h.here.1) hg (by omega), own_past9 ho hg (by omega)⟩
theorem Rp.cells (h : Rp bb bp A c l r Ab kb wh w) : w.cell? ⟨bp, 0, none⟩ = some (.func (Fn.func 36) #[] #[.pointer (some ⟨bb, 0, none⟩)]) ∧ w.cell? ⟨bb, 0, none⟩ = some (.slice A l.length c) := ⟨cell_of_row _ _ 0 _ _ _ h.blk, cell_of_row _ _ 0 _ _ _ h.box⟩
end
theorem offA_zero (A : Option Addr) (c : Nat) : offA A c 0 = A := by
  unfold offA
  split
  · rfl
  · cases A <;> simp [Addr.add]

set_option maxRecDepth 100000 in
set_option maxHeartbeats 1000000 in
theorem rest_any (bb bp c kb k n : Nat) (A Ab : Option Addr) (l : List UInt8) (r : RI) (wh : Bool) (hk : k ≤ n) (hn : l.length = n) (w : World) (h : Rp bb bp A c l r Ab kb wh w) :
    Calls Tryz.prog 36 #[.int .i64 (k : Int), .pointer (some ⟨bb, 0, none⟩)] w fun e w' => e = .returned (.slice (offA A c k) (n - k) (c - k)) ∧ Hid (Rp bb bp (offA A c k) (c - k) (l.drop k) r Ab kb wh w') ∧ Rk bb bp w w' := by
  subst hn
  have c0 := h.cells.2
  have f0 := Joins.unfrozen_of_block h.box 0
  have hsl := fun W => slice_l A l.length c k hk W
  have hse := fun x lo hi mx W => sliceAt_eq x lo hi mx W
  have HS := Lib.hid (h.adv hk)
  have HB := Lib.hid (Rk.of_bb (bp := bp) (grown_setCell w bb 0 (.slice (offA A c k) (l.length - k) (c - k))))
  clear h hk
  generalize l.length = n at *
  go_enter Tryz.func36, Tryz.ntmps36
  go_wp2_with fail
  go_ret
  exact ⟨rfl, HS.out, HB.out⟩
theorem rest0_any (bb bp c kb : Nat) (A Ab : Option Addr) (l : List UInt8) (n : Nat) (r : RI) (wh : Bool) (hn : l.length = n) (w : World) (h : Rp bb bp A c l r Ab kb wh w) :
    Calls Tryz.prog 36 #[.int .i64 0, .pointer (some ⟨bb, 0, none⟩)] w fun e w' => e = .returned (.slice A n c) ∧ Hid (Rp bb bp A c l r Ab kb wh w') ∧ Rk bb bp w w' := by
  have := rest_any bb bp c kb 0 n A Ab l r wh (Nat.zero_le _) hn w h
  rw [offA_zero] at this
  exact this

set_option maxRecDepth 100000 in
set_option maxHeartbeats 1000000 in
theorem hasPrefix_any (B1 B2 : Nat) (A A2 : Option Addr) (c d n n2 : Nat) (l m : List UInt8) (hn : l.length = n) (hn2 : m.length = n2) (w : World) (h1 : ByAt B1 w A c l) (h2 : ByAt B2 w A2 d m) :
    Calls Tryz.prog 78 #[.slice A n c, .slice A2 n2 d] w fun e w' => e = .returned (.bool (m.isPrefixOf l)) ∧ w = w' := by
  by_cases hlt : n2 ≤ n
  · have hc := h1.le
    have g1 : decide (n2 ≤ n) = true := by simp; omega
    have g2 : decide ((n2 : Int) ≤ (n : Int)) = true := by simp; omega
    have g3 : decide ((n : Int) ≥ (n2 : Int)) = true := by simp; omega
    have EQ := Lib.hid (bytesEq9_any B1 B2 A A2 c d n2 n2 (l.take n2) m (by rw [List.length_take]; omega) hn2 w (h1.take (by omega)) h2)
    have hsl := fun W => slice_h A n c n2 (by omega) W
    have hse := fun x lo hi mx W => sliceAt_eq x lo hi mx W
    have R := Lib.hid (show (l.take n2 == m) = m.isPrefixOf l by
      rw [Bool.eq_iff_iff, beq_iff_eq, List.isPrefixOf_iff_prefix, List.prefix_iff_eq_take, hn2]
      exact ⟨Eq.symm, Eq.symm⟩)
    clear h1 h2 hn hn2
    go_enter Tryz.func78, Tryz.ntmps78
    go_wp2_with fail
    refine EQ.out.mono ?_
    rintro e w1 ⟨rfl, rfl⟩
    go_wp2_with fail
    go_ret
    exact ⟨ret_bool R.out, rfl⟩
  · have g1 : decide (n2 ≤ n) = false := by simp; omega
    have g2 : decide ((n2 : Int) ≤ (n : Int)) = false := by simp; omega
    have R := Lib.hid (show m.isPrefixOf l = false by
      rw [Bool.eq_false_iff]
      intro e
      rw [List.isPrefixOf_iff_prefix] at e
      have := e.length_le
      omega)
    clear h1 h2 hn hn2
    go_enter Tryz.func78, Tryz.ntmps78
    go_wp2_with fail
    go_ret
    exact ⟨ret_bool R.out.symm, rfl⟩

/-- What is left behind a word. -/
def cutW (s l : List UInt8) : List UInt8 := if s.isPrefixOf l = true then l.drop s.length else l

set_option maxRecDepth 100000 in
set_option maxHeartbeats 2000000 in
theorem pass_any (bb bp c kb : Nat) (A Ab : Option Addr) (l s : List UInt8) (r : RI) (wh : Bool) (w : World) (h : Rp bb bp A c l r Ab kb wh w) :
    Calls Tryz.prog 54 #[.pointer (some ⟨bp, 0, none⟩), .string ⟨s.toArray⟩] w fun e w' => e = .returned (.bool (s.isPrefixOf l)) ∧ (∃ A' c', Hid (Rp bb bp A' c' (cutW s l) r Ab kb wh w')) ∧ Rk bb bp w w' := by
  have c0 := h.cells.1
  have R0 := Lib.hid (rest0_any bb bp c kb A Ab l l.length r wh rfl w h)
  have RN := Lib.hid (fun W (hw : Rp bb bp A c l r Ab kb wh W) (hs : s.length ≤ l.length) => rest_any bb bp c kb s.length l.length A Ab l r wh hs rfl W hw)
  have HP := Lib.hid (fun (W : World) A2 d B2 (hw : Rp bb bp A c l r Ab kb wh W) (h2 : ByAt B2 W A2 d s) => hasPrefix_any bb B2 A A2 c d l.length s.length l s rfl rfl W hw.lies h2)
  obtain ⟨m, hm⟩ : ∃ m, l.length = m := ⟨_, rfl⟩
  obtain ⟨sn, hsn⟩ : ∃ sn, s.length = sn := ⟨_, rfl⟩
  have hsz : (ByteArray.mk s.toArray).size = sn := by simpa [ByteArray.size] using hsn
  have hCV := Lib.hid (fun W => convB W ⟨s.toArray⟩ sn hsz)
  rw [hm] at R0 RN HP
  rw [hsn] at RN HP
  have HX := Lib.hid (fun (e : s.isPrefixOf l = true) => show sn ≤ m by
    rw [List.isPrefixOf_iff_prefix] at e
    have := e.length_le
    omega)
  have HT := Lib.hid (show (s.isPrefixOf l = true → cutW s l = l.drop sn) ∧ (s.isPrefixOf l = false → cutW s l = l) from by
    unfold cutW
    rw [hsn]
    exact ⟨fun e => if_pos e, fun e => if_neg (by rw [e]; decide)⟩)
  clear h hm hsn
  generalize cutW s l = t at *
  generalize s.isPrefixOf l = q at *
  go_enter Tryz.func54, Tryz.ntmps54
  go_wp2_with fail
  refine R0.out.mono ?_
  rintro e w1 ⟨rfl, h1, k1⟩
  obtain ⟨cap, w2, hcv, hb2, hby, -, -⟩ := hCV.out w1
  have h2 := Lib.hid (h1.out.grow hb2)
  have K2 := Lib.hid (k1.trans (Rk.of_below hb2))
  have HP := Lib.hid (HP.out w2 _ _ _ h2.out hby)
  have c2 := h2.out.cells.1
  clear hb2 hby k1 h1 R0
  go_wp2_with fail
  refine HP.out.mono ?_
  rintro e w3 ⟨rfl, rfl⟩
  clear HP
  cases q with
  | false =>
    obtain rfl := HT.out.2 rfl
    go_wp2_with fail
    go_ret
    exact ⟨rfl, ⟨_, _, h2⟩, K2.out⟩
  | true =>
    have RN := Lib.hid (RN.out w2 h2.out (HX.out rfl))
    have HT2 := Lib.hid (HT.out.1 rfl)
    clear HX
    go_wp2_with fail
    refine RN.out.mono ?_
    rintro e w4 ⟨rfl, h4, k4⟩
    have K4 := Lib.hid (K2.out.trans k4)
    clear k4
    go_wp2_with fail
    go_ret
    exact ⟨rfl, ⟨_, _, by rw [HT2.out]; exact h4⟩, K4.out⟩
end Go.Proofs.YtpoejnajnaolpaaGreatDoor
