/-
  DERIVED. GIVEN WITH THE SEED: THE CARDS: each row of YtdgcghcigjblaaaDoorRows.lean that lists a variable, with what it lists TIED to the program's text (the seventh form; the later family's looks); each row that meets fmt, with fmt's text TOLD by the authors' own Lean function (tested against real Go, not proved from fmt's source: count such statements apart). THE CARD IS WHAT COUNTS. Prove the row's statement (the work); the ties are given (YtdgcghcigjblaaaDoorTie.lean); close each card by the builder's one call (the guide's Derived/Test/ToyasCard.lean, 'card_holds'). Laid BY PROGRAM, IN A SANDBOX (cutbox-door.mjs). By AI agents, Wed Nov 11 2026. No macro, syntax, notation, axiom, sorry.
-/
import Derived.Test.YtdgcghcigjblaaaDoorRows
import GoSem.ClaimSeven
namespace Go.Proofs.YtdgcghcigjblaaaDoor
namespace Rows

/-- THE TIED CARD OF 'cubbyholelaw02.SeqsetInverse'. -/
def seqsetInverseCard : Claim7 := { stood := { row := seqsetInverseRow, standIns := [], harness := (true, "22c20731d5e5d4a67c5b3f319c1b9f9bbaa2a0ed9d58906e38abe9dd25254616"), looks := true }, kinds := [], alts := [], laidByText := true, laidKinds := [.data, .data, .data, .data, .sentinel, .sentinel, .pinned], laidTests := true, laidLooks := .later }
def SeqsetInverseCardSaid : Prop := Claim7.holds Tryd.pinned (.plain (OpenSpec.ofChange seqsetInverseSpec)) seqsetInverseCard

/-- THE TIED CARD OF 'cubbyholelaw02.SeqsetNumbers'. -/
def seqsetNumbersCard : Claim7 := { stood := { row := seqsetNumbersRow, standIns := [], harness := (true, "22c20731d5e5d4a67c5b3f319c1b9f9bbaa2a0ed9d58906e38abe9dd25254616"), looks := true }, kinds := [], alts := [], laidByText := true, laidKinds := [.data, .data, .data, .data, .sentinel, .sentinel, .pinned], laidTests := true, laidLooks := .later }
def SeqsetNumbersCardSaid : Prop := Claim7.holds Tryd.pinned (.plain (OpenSpec.ofChange seqsetNumbersSpec)) seqsetNumbersCard

/-- THE TIED CARD OF 'cubbyholelaw02.SeqsetHas'. -/
def seqsetHasCard : Claim7 := { stood := { row := seqsetHasRow, standIns := [], harness := (true, "22c20731d5e5d4a67c5b3f319c1b9f9bbaa2a0ed9d58906e38abe9dd25254616"), looks := true }, kinds := [], alts := [], laidByText := true, laidKinds := [.data, .data, .data, .data, .sentinel, .sentinel, .pinned], laidTests := true, laidLooks := .later }
def SeqsetHasCardSaid : Prop := Claim7.holds Tryd.pinned (.plain (OpenSpec.ofChange seqsetHasSpec)) seqsetHasCard

/-- THE TIED CARD OF 'cubbyholelaw02.SeqsetMakes'. -/
def seqsetMakesCard : Claim7 := { stood := { row := seqsetMakesRow, standIns := [], harness := (true, "22c20731d5e5d4a67c5b3f319c1b9f9bbaa2a0ed9d58906e38abe9dd25254616"), looks := true }, kinds := [], alts := [], laidByText := true, laidKinds := [.data, .data, .data, .data, .sentinel, .sentinel, .pinned], laidTests := true, laidLooks := .later }
def SeqsetMakesCardSaid : Prop := Claim7.holds Tryd.pinned (.plain (OpenSpec.ofChange seqsetMakesSpec)) seqsetMakesCard

/-- THE SECOND FORM's CARD OF 'cubbyholelaw02.SeqsetInverse'. -/
def seqsetInverseUptoCard : Claim7 := { stood := { row := seqsetInverseUptoRow, standIns := [], harness := (true, "22c20731d5e5d4a67c5b3f319c1b9f9bbaa2a0ed9d58906e38abe9dd25254616"), looks := true }, kinds := [], alts := [], laidByText := true, laidKinds := [.data, .data, .data, .data, .sentinel, .sentinel, .pinned], laidTests := true, laidLooks := .later }
def SeqsetInverseUptoCardSaid : Prop := Claim7.holds Tryd.pinned (.plain (OpenSpec.upto seqsetInverseSpec)) seqsetInverseUptoCard

/-- THE SECOND FORM's CARD OF 'cubbyholelaw02.SeqsetNumbers'. -/
def seqsetNumbersUptoCard : Claim7 := { stood := { row := seqsetNumbersUptoRow, standIns := [], harness := (true, "22c20731d5e5d4a67c5b3f319c1b9f9bbaa2a0ed9d58906e38abe9dd25254616"), looks := true }, kinds := [], alts := [], laidByText := true, laidKinds := [.data, .data, .data, .data, .sentinel, .sentinel, .pinned], laidTests := true, laidLooks := .later }
def SeqsetNumbersUptoCardSaid : Prop := Claim7.holds Tryd.pinned (.plain (OpenSpec.upto seqsetNumbersSpec)) seqsetNumbersUptoCard

/-- THE SECOND FORM's CARD OF 'cubbyholelaw02.SeqsetHas'. -/
def seqsetHasUptoCard : Claim7 := { stood := { row := seqsetHasUptoRow, standIns := [], harness := (true, "22c20731d5e5d4a67c5b3f319c1b9f9bbaa2a0ed9d58906e38abe9dd25254616"), looks := true }, kinds := [], alts := [], laidByText := true, laidKinds := [.data, .data, .data, .data, .sentinel, .sentinel, .pinned], laidTests := true, laidLooks := .later }
def SeqsetHasUptoCardSaid : Prop := Claim7.holds Tryd.pinned (.plain (OpenSpec.upto seqsetHasSpec)) seqsetHasUptoCard

/-- THE SECOND FORM's CARD OF 'cubbyholelaw02.SeqsetMakes'. -/
def seqsetMakesUptoCard : Claim7 := { stood := { row := seqsetMakesUptoRow, standIns := [], harness := (true, "22c20731d5e5d4a67c5b3f319c1b9f9bbaa2a0ed9d58906e38abe9dd25254616"), looks := true }, kinds := [], alts := [], laidByText := true, laidKinds := [.data, .data, .data, .data, .sentinel, .sentinel, .pinned], laidTests := true, laidLooks := .later }
def SeqsetMakesUptoCardSaid : Prop := Claim7.holds Tryd.pinned (.plain (OpenSpec.upto seqsetMakesSpec)) seqsetMakesUptoCard
end Rows
end Go.Proofs.YtdgcghcigjblaaaDoor
