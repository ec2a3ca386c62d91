import Derived.Test.YtpgfnlhfciacoaaGreatDoorPGv
namespace Go.Proofs.YtpgfnlhfciacoaaGreatDoor
open Go.RowKit
structure CX where
 c : CI
 A1 : Option Addr
 A2 : Option Addr
 k1 : Nat
 k2 : Nat
def encX (x : CX) : List Value := [.string ⟨x.c.tag.toArray⟩, .int .i64 x.c.kind, .string ⟨x.c.mbox.toArray⟩, .slice x.A1 x.c.set.length x.k1, .int .i64 x.c.items, .int .i64 x.c.mode, .bool x.c.silent, .int .u8 x.c.flags, .slice x.A2 x.c.data.length x.k2]
theorem encX_len (x : CX) : (encX x).length = 9 := rfl
structure XsAt (w : World) (A : Option Addr) (xs : List CX) : Prop where
 sl : SlAt encX 9 w A xs
 each : ∀ x ∈ xs, SlAt encR 2 w x.A1 x.c.set ∧ ByAt w.heap.size w x.A2 x.k2 x.c.data
theorem XsAt.below {w W : World} {A : Option Addr} {xs : List CX} (h : XsAt w A xs) (hb : Below w.heap.size w W) : XsAt W A xs :=
 ⟨h.sl.below hb, fun x hx => ⟨(h.each x hx).1.below hb, ((h.each x hx).2.below hb).mono hb.size⟩⟩
theorem XsAt.at {w : World} {A : Option Addr} {xs : List CX} (h : XsAt w A xs) {j : Nat} (hj : j < xs.length) :
 ∃ b off, A = some ⟨b, off, none⟩ ∧ b < w.heap.size ∧
  w.cell? ⟨b, off + j * 9, none⟩ = some (.string ⟨xs[j].c.tag.toArray⟩) ∧ w.cell? ⟨b, off + j * 9 + 1, none⟩ = some (.int .i64 xs[j].c.kind) ∧ w.cell? ⟨b, off + j * 9 + 2, none⟩ = some (.string ⟨xs[j].c.mbox.toArray⟩) ∧
  w.cell? ⟨b, off + j * 9 + 3, none⟩ = some (.slice xs[j].A1 xs[j].c.set.length xs[j].k1) ∧ w.cell? ⟨b, off + j * 9 + 4, none⟩ = some (.int .i64 xs[j].c.items) ∧ w.cell? ⟨b, off + j * 9 + 5, none⟩ = some (.int .i64 xs[j].c.mode) ∧
  w.cell? ⟨b, off + j * 9 + 6, none⟩ = some (.bool xs[j].c.silent) ∧ w.cell? ⟨b, off + j * 9 + 7, none⟩ = some (.int .u8 xs[j].c.flags) ∧ w.cell? ⟨b, off + j * 9 + 8, none⟩ = some (.slice xs[j].A2 xs[j].c.data.length xs[j].k2) := by
 obtain ⟨b, off, hA, hb, hc⟩ := h.sl.at_ hj
 exact ⟨b, off, hA, hb, hc 0 _ rfl, hc 1 _ rfl, hc 2 _ rfl, hc 3 _ rfl, hc 4 _ rfl, hc 5 _ rfl, hc 6 _ rfl, hc 7 _ rfl, hc 8 _ rfl⟩
section
open Go.ChangeShapes Go.WideShapes Go.ChangeAt Go.WideMaps Go.WideElems
instance : Inhabited CX := ⟨⟨⟨[], 0, [], [], 0, 0, false, 0, []⟩, none, none, 0, 0⟩⟩
end
end Go.Proofs.YtpgfnlhfciacoaaGreatDoor
