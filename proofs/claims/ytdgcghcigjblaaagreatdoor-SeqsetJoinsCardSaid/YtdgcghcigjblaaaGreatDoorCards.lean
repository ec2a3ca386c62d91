/-
  DERIVED. GIVEN WITH THE SEED: THE CARDS: each row of YtdgcghcigjblaaaGreatDoorRows.lean that lists a variable, with what it lists TIED to the program's text (the seventh form; the later family's looks); each row that meets fmt, with fmt's text TOLD by the authors' own Lean function (tested against real Go, not proved from fmt's source: count such statements apart). THE CARD IS WHAT COUNTS. Prove the row's statement (the work); the ties are given (YtdgcghcigjblaaaGreatDoorTie.lean); close each card by the builder's one call (the guide's Derived/Test/ToyasCard.lean, 'card_holds'). Laid BY PROGRAM, IN A SANDBOX (cutbox-door.mjs). By AI agents, Wed Nov 11 2026. No macro, syntax, notation, axiom, sorry.
-/
import Derived.Test.YtdgcghcigjblaaaGreatDoorRows
import GoSem.ClaimSeven
namespace Go.Proofs.YtdgcghcigjblaaaGreatDoor
namespace Rows

/-- THE TIED CARD OF 'cubbyholelaw02.SeqsetJoins'. -/
def seqsetJoinsCard : Claim7 := { stood := { row := seqsetJoinsRow, standIns := [], harness := (true, "f91b774d7472f7d90b3eb5412e7caecba94fe126a70eb3de6642d09273bb26c3"), looks := true }, kinds := [], alts := [], laidByText := true, laidKinds := [.data, .data, .data, .data, .sentinel, .sentinel, .pinned], laidTests := true, laidLooks := .later }
def SeqsetJoinsCardSaid : Prop := Claim7.holds Tryz.pinned (.plain (OpenSpec.ofChange seqsetJoinsSpec)) seqsetJoinsCard

/-- THE SECOND FORM's CARD OF 'cubbyholelaw02.SeqsetJoins'. -/
def seqsetJoinsUptoCard : Claim7 := { stood := { row := seqsetJoinsUptoRow, standIns := [], harness := (true, "f91b774d7472f7d90b3eb5412e7caecba94fe126a70eb3de6642d09273bb26c3"), looks := true }, kinds := [], alts := [], laidByText := true, laidKinds := [.data, .data, .data, .data, .sentinel, .sentinel, .pinned], laidTests := true, laidLooks := .later }
def SeqsetJoinsUptoCardSaid : Prop := Claim7.holds Tryz.pinned (.plain (OpenSpec.upto seqsetJoinsSpec)) seqsetJoinsUptoCard
end Rows
end Go.Proofs.YtdgcghcigjblaaaGreatDoor
