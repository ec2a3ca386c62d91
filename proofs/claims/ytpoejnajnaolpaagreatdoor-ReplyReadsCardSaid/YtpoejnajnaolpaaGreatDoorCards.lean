/-
  DERIVED. GIVEN WITH THE SEED: THE CARDS: each row of YtpoejnajnaolpaaGreatDoorRows.lean that lists a variable, with what it lists TIED to the program's text (the seventh form; the later family's looks); each row that meets fmt, with fmt's text TOLD by the authors' own Lean function (tested against real Go, not proved from fmt's source: count such statements apart). THE CARD IS WHAT COUNTS. Prove the row's statement (the work); the ties are given (YtpoejnajnaolpaaGreatDoorTie.lean); close each card by the builder's one call (the guide's Derived/Test/ToyasCard.lean, 'card_holds'). Laid BY PROGRAM, IN A SANDBOX (cutbox-door.mjs). By AI agents, Wed Nov 11 2026. No macro, syntax, notation, axiom, sorry.
-/
import Derived.Test.YtpoejnajnaolpaaGreatDoorRows
import GoSem.ClaimSeven
namespace Go.Proofs.YtpoejnajnaolpaaGreatDoor
namespace Rows

/-- THE TIED CARD OF 'cubbyholelaw10.ReplyParses'. -/
def replyParsesCard : Claim7 := { stood := { row := replyParsesRow, standIns := [], harness := (true, "b09e797f96149fb6cd988e48f9917940db8d04f75d46334ec17440357ee8176d"), looks := true }, kinds := [], alts := [], laidByText := true, laidKinds := [.data, .data, .data, .data, .sentinel, .sentinel, .pinned], laidTests := true, laidLooks := .later }
def ReplyParsesCardSaid : Prop := Claim7.holds Tryz.pinned (.plain (OpenSpec.ofChange replyParsesSpec)) replyParsesCard

/-- THE TIED CARD OF 'cubbyholelaw10.ReplyReads'. -/
def replyReadsCard : Claim7 := { stood := { row := replyReadsRow, standIns := [], harness := (true, "b09e797f96149fb6cd988e48f9917940db8d04f75d46334ec17440357ee8176d"), looks := true }, kinds := [], alts := [], laidByText := true, laidKinds := [.data, .data, .data, .data, .sentinel, .sentinel, .pinned], laidTests := true, laidLooks := .later }
def ReplyReadsCardSaid : Prop := Claim7.holds Tryz.pinned (.plain (OpenSpec.ofChange replyReadsSpec)) replyReadsCard

/-- THE TIED CARD OF 'cubbyholelaw10.ReplyInverse'. -/
def replyInverseCard : Claim7 := { stood := { row := replyInverseRow, standIns := [], harness := (true, "b09e797f96149fb6cd988e48f9917940db8d04f75d46334ec17440357ee8176d"), looks := true }, kinds := [], alts := [], laidByText := true, laidKinds := [.data, .data, .data, .data, .sentinel, .sentinel, .pinned], laidTests := true, laidLooks := .later }
def ReplyInverseCardSaid : Prop := Claim7.holds Tryz.pinned (.plain (OpenSpec.ofChange replyInverseSpec)) replyInverseCard

/-- THE TIED CARD OF 'cubbyholelaw10.ReplyOnce'. -/
def replyOnceCard : Claim7 := { stood := { row := replyOnceRow, standIns := [], harness := (true, "b09e797f96149fb6cd988e48f9917940db8d04f75d46334ec17440357ee8176d"), looks := true }, kinds := [], alts := [], laidByText := true, laidKinds := [.data, .data, .data, .data, .sentinel, .sentinel, .pinned], laidTests := true, laidLooks := .later }
def ReplyOnceCardSaid : Prop := Claim7.holds Tryz.pinned (.plain (OpenSpec.ofChange replyOnceSpec)) replyOnceCard

/-- THE TIED CARD OF 'cubbyholelaw10.ReplyPicks'. -/
def replyPicksCard : Claim7 := { stood := { row := replyPicksRow, standIns := [], harness := (true, "b09e797f96149fb6cd988e48f9917940db8d04f75d46334ec17440357ee8176d"), looks := true }, kinds := [], alts := [], laidByText := true, laidKinds := [.data, .data, .data, .data, .sentinel, .sentinel, .pinned], laidTests := true, laidLooks := .later }
def ReplyPicksCardSaid : Prop := Claim7.holds Tryz.pinned (.plain (OpenSpec.ofChange replyPicksSpec)) replyPicksCard

/-- THE TIED CARD OF 'cubbyholelaw10.ReplyCounts'. -/
def replyCountsCard : Claim7 := { stood := { row := replyCountsRow, standIns := [], harness := (true, "b09e797f96149fb6cd988e48f9917940db8d04f75d46334ec17440357ee8176d"), looks := true }, kinds := [], alts := [], laidByText := true, laidKinds := [.data, .data, .data, .data, .sentinel, .sentinel, .pinned], laidTests := true, laidLooks := .later }
def ReplyCountsCardSaid : Prop := Claim7.holds Tryz.pinned (.plain (OpenSpec.ofChange replyCountsSpec)) replyCountsCard

/-- THE SECOND FORM's CARD OF 'cubbyholelaw10.ReplyParses'. -/
def replyParsesUptoCard : Claim7 := { stood := { row := replyParsesUptoRow, standIns := [], harness := (true, "b09e797f96149fb6cd988e48f9917940db8d04f75d46334ec17440357ee8176d"), looks := true }, kinds := [], alts := [], laidByText := true, laidKinds := [.data, .data, .data, .data, .sentinel, .sentinel, .pinned], laidTests := true, laidLooks := .later }
def ReplyParsesUptoCardSaid : Prop := Claim7.holds Tryz.pinned (.plain (OpenSpec.upto replyParsesSpec)) replyParsesUptoCard

/-- THE SECOND FORM's CARD OF 'cubbyholelaw10.ReplyReads'. -/
def replyReadsUptoCard : Claim7 := { stood := { row := replyReadsUptoRow, standIns := [], harness := (true, "b09e797f96149fb6cd988e48f9917940db8d04f75d46334ec17440357ee8176d"), looks := true }, kinds := [], alts := [], laidByText := true, laidKinds := [.data, .data, .data, .data, .sentinel, .sentinel, .pinned], laidTests := true, laidLooks := .later }
def ReplyReadsUptoCardSaid : Prop := Claim7.holds Tryz.pinned (.plain (OpenSpec.upto replyReadsSpec)) replyReadsUptoCard

/-- THE SECOND FORM's CARD OF 'cubbyholelaw10.ReplyInverse'. -/
def replyInverseUptoCard : Claim7 := { stood := { row := replyInverseUptoRow, standIns := [], harness := (true, "b09e797f96149fb6cd988e48f9917940db8d04f75d46334ec17440357ee8176d"), looks := true }, kinds := [], alts := [], laidByText := true, laidKinds := [.data, .data, .data, .data, .sentinel, .sentinel, .pinned], laidTests := true, laidLooks := .later }
def ReplyInverseUptoCardSaid : Prop := Claim7.holds Tryz.pinned (.plain (OpenSpec.upto replyInverseSpec)) replyInverseUptoCard

/-- THE SECOND FORM's CARD OF 'cubbyholelaw10.ReplyOnce'. -/
def replyOnceUptoCard : Claim7 := { stood := { row := replyOnceUptoRow, standIns := [], harness := (true, "b09e797f96149fb6cd988e48f9917940db8d04f75d46334ec17440357ee8176d"), looks := true }, kinds := [], alts := [], laidByText := true, laidKinds := [.data, .data, .data, .data, .sentinel, .sentinel, .pinned], laidTests := true, laidLooks := .later }
def ReplyOnceUptoCardSaid : Prop := Claim7.holds Tryz.pinned (.plain (OpenSpec.upto replyOnceSpec)) replyOnceUptoCard

/-- THE SECOND FORM's CARD OF 'cubbyholelaw10.ReplyPicks'. -/
def replyPicksUptoCard : Claim7 := { stood := { row := replyPicksUptoRow, standIns := [], harness := (true, "b09e797f96149fb6cd988e48f9917940db8d04f75d46334ec17440357ee8176d"), looks := true }, kinds := [], alts := [], laidByText := true, laidKinds := [.data, .data, .data, .data, .sentinel, .sentinel, .pinned], laidTests := true, laidLooks := .later }
def ReplyPicksUptoCardSaid : Prop := Claim7.holds Tryz.pinned (.plain (OpenSpec.upto replyPicksSpec)) replyPicksUptoCard

/-- THE SECOND FORM's CARD OF 'cubbyholelaw10.ReplyCounts'. -/
def replyCountsUptoCard : Claim7 := { stood := { row := replyCountsUptoRow, standIns := [], harness := (true, "b09e797f96149fb6cd988e48f9917940db8d04f75d46334ec17440357ee8176d"), looks := true }, kinds := [], alts := [], laidByText := true, laidKinds := [.data, .data, .data, .data, .sentinel, .sentinel, .pinned], laidTests := true, laidLooks := .later }
def ReplyCountsUptoCardSaid : Prop := Claim7.holds Tryz.pinned (.plain (OpenSpec.upto replyCountsSpec)) replyCountsUptoCard
end Rows
end Go.Proofs.YtpoejnajnaolpaaGreatDoor
