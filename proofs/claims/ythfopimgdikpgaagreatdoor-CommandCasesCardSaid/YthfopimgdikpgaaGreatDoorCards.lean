/-
  DERIVED. GIVEN WITH THE SEED: THE CARDS: each row of YthfopimgdikpgaaGreatDoorRows.lean that lists a variable, with what it lists TIED to the program's text (the seventh form; the later family's looks); each row that meets fmt, with fmt's text TOLD by the authors' own Lean function (tested against real Go, not proved from fmt's source: count such statements apart). THE CARD IS WHAT COUNTS. Prove the row's statement (the work); the ties are given (YthfopimgdikpgaaGreatDoorTie.lean); close each card by the builder's one call (the guide's Derived/Test/ToyasCard.lean, 'card_holds'). Laid BY PROGRAM, IN A SANDBOX (cutbox-door.mjs). By AI agents, Wed Nov 11 2026. No macro, syntax, notation, axiom, sorry.
-/
import Derived.Test.YthfopimgdikpgaaGreatDoorRows
import GoSem.ClaimSeven
namespace Go.Proofs.YthfopimgdikpgaaGreatDoor
namespace Rows

/-- THE TIED CARD OF 'cubbyholelaw07.CommandParses'. -/
def commandParsesCard : Claim7 := { stood := { row := commandParsesRow, standIns := [], harness := (true, "723992c79e181d1ab3dba3b784871563eb96f3a4900cc326ad7bc6aa7c433c1a"), looks := true }, kinds := [], alts := [], laidByText := true, laidKinds := [.data, .data, .data, .data, .sentinel, .sentinel, .pinned], laidTests := true, laidLooks := .later }
def CommandParsesCardSaid : Prop := Claim7.holds Tryz.pinned (.plain (OpenSpec.ofChange commandParsesSpec)) commandParsesCard

/-- THE TIED CARD OF 'cubbyholelaw07.CommandValid'. -/
def commandValidCard : Claim7 := { stood := { row := commandValidRow, standIns := [], harness := (true, "723992c79e181d1ab3dba3b784871563eb96f3a4900cc326ad7bc6aa7c433c1a"), looks := true }, kinds := [], alts := [], laidByText := true, laidKinds := [.data, .data, .data, .data, .sentinel, .sentinel, .pinned], laidTests := true, laidLooks := .later }
def CommandValidCardSaid : Prop := Claim7.holds Tryz.pinned (.plain (OpenSpec.ofChange commandValidSpec)) commandValidCard

/-- THE TIED CARD OF 'cubbyholelaw07.CommandSame'. -/
def commandSameCard : Claim7 := { stood := { row := commandSameRow, standIns := [], harness := (true, "723992c79e181d1ab3dba3b784871563eb96f3a4900cc326ad7bc6aa7c433c1a"), looks := true }, kinds := [], alts := [], laidByText := true, laidKinds := [.data, .data, .data, .data, .sentinel, .sentinel, .pinned], laidTests := true, laidLooks := .later }
def CommandSameCardSaid : Prop := Claim7.holds Tryz.pinned (.plain (OpenSpec.ofChange commandSameSpec)) commandSameCard

/-- THE TIED CARD OF 'cubbyholelaw07.CommandNames'. -/
def commandNamesCard : Claim7 := { stood := { row := commandNamesRow, standIns := [], harness := (true, "723992c79e181d1ab3dba3b784871563eb96f3a4900cc326ad7bc6aa7c433c1a"), looks := true }, kinds := [], alts := [], laidByText := true, laidKinds := [.data, .data, .data, .data, .sentinel, .sentinel, .pinned], laidTests := true, laidLooks := .later }
def CommandNamesCardSaid : Prop := Claim7.holds Tryz.pinned (.plain (OpenSpec.ofChange commandNamesSpec)) commandNamesCard

/-- THE TIED CARD OF 'cubbyholelaw07.CommandCases'. -/
def commandCasesCard : Claim7 := { stood := { row := commandCasesRow, standIns := [], harness := (true, "723992c79e181d1ab3dba3b784871563eb96f3a4900cc326ad7bc6aa7c433c1a"), looks := true }, kinds := [], alts := [], laidByText := true, laidKinds := [.data, .data, .data, .data, .sentinel, .sentinel, .pinned], laidTests := true, laidLooks := .later }
def CommandCasesCardSaid : Prop := Claim7.holds Tryz.pinned (.plain (OpenSpec.ofChange commandCasesSpec)) commandCasesCard

/-- THE TIED CARD OF 'cubbyholelaw07.CommandKeeps'. -/
def commandKeepsCard : Claim7 := { stood := { row := commandKeepsRow, standIns := [], harness := (true, "723992c79e181d1ab3dba3b784871563eb96f3a4900cc326ad7bc6aa7c433c1a"), looks := true }, kinds := [], alts := [], laidByText := true, laidKinds := [.data, .data, .data, .data, .sentinel, .sentinel, .pinned], laidTests := true, laidLooks := .later }
def CommandKeepsCardSaid : Prop := Claim7.holds Tryz.pinned (.plain (OpenSpec.ofChange commandKeepsSpec)) commandKeepsCard

/-- THE SECOND FORM's CARD OF 'cubbyholelaw07.CommandParses'. -/
def commandParsesUptoCard : Claim7 := { stood := { row := commandParsesUptoRow, standIns := [], harness := (true, "723992c79e181d1ab3dba3b784871563eb96f3a4900cc326ad7bc6aa7c433c1a"), looks := true }, kinds := [], alts := [], laidByText := true, laidKinds := [.data, .data, .data, .data, .sentinel, .sentinel, .pinned], laidTests := true, laidLooks := .later }
def CommandParsesUptoCardSaid : Prop := Claim7.holds Tryz.pinned (.plain (OpenSpec.upto commandParsesSpec)) commandParsesUptoCard

/-- THE SECOND FORM's CARD OF 'cubbyholelaw07.CommandValid'. -/
def commandValidUptoCard : Claim7 := { stood := { row := commandValidUptoRow, standIns := [], harness := (true, "723992c79e181d1ab3dba3b784871563eb96f3a4900cc326ad7bc6aa7c433c1a"), looks := true }, kinds := [], alts := [], laidByText := true, laidKinds := [.data, .data, .data, .data, .sentinel, .sentinel, .pinned], laidTests := true, laidLooks := .later }
def CommandValidUptoCardSaid : Prop := Claim7.holds Tryz.pinned (.plain (OpenSpec.upto commandValidSpec)) commandValidUptoCard

/-- THE SECOND FORM's CARD OF 'cubbyholelaw07.CommandSame'. -/
def commandSameUptoCard : Claim7 := { stood := { row := commandSameUptoRow, standIns := [], harness := (true, "723992c79e181d1ab3dba3b784871563eb96f3a4900cc326ad7bc6aa7c433c1a"), looks := true }, kinds := [], alts := [], laidByText := true, laidKinds := [.data, .data, .data, .data, .sentinel, .sentinel, .pinned], laidTests := true, laidLooks := .later }
def CommandSameUptoCardSaid : Prop := Claim7.holds Tryz.pinned (.plain (OpenSpec.upto commandSameSpec)) commandSameUptoCard

/-- THE SECOND FORM's CARD OF 'cubbyholelaw07.CommandNames'. -/
def commandNamesUptoCard : Claim7 := { stood := { row := commandNamesUptoRow, standIns := [], harness := (true, "723992c79e181d1ab3dba3b784871563eb96f3a4900cc326ad7bc6aa7c433c1a"), looks := true }, kinds := [], alts := [], laidByText := true, laidKinds := [.data, .data, .data, .data, .sentinel, .sentinel, .pinned], laidTests := true, laidLooks := .later }
def CommandNamesUptoCardSaid : Prop := Claim7.holds Tryz.pinned (.plain (OpenSpec.upto commandNamesSpec)) commandNamesUptoCard

/-- THE SECOND FORM's CARD OF 'cubbyholelaw07.CommandCases'. -/
def commandCasesUptoCard : Claim7 := { stood := { row := commandCasesUptoRow, standIns := [], harness := (true, "723992c79e181d1ab3dba3b784871563eb96f3a4900cc326ad7bc6aa7c433c1a"), looks := true }, kinds := [], alts := [], laidByText := true, laidKinds := [.data, .data, .data, .data, .sentinel, .sentinel, .pinned], laidTests := true, laidLooks := .later }
def CommandCasesUptoCardSaid : Prop := Claim7.holds Tryz.pinned (.plain (OpenSpec.upto commandCasesSpec)) commandCasesUptoCard

/-- THE SECOND FORM's CARD OF 'cubbyholelaw07.CommandKeeps'. -/
def commandKeepsUptoCard : Claim7 := { stood := { row := commandKeepsUptoRow, standIns := [], harness := (true, "723992c79e181d1ab3dba3b784871563eb96f3a4900cc326ad7bc6aa7c433c1a"), looks := true }, kinds := [], alts := [], laidByText := true, laidKinds := [.data, .data, .data, .data, .sentinel, .sentinel, .pinned], laidTests := true, laidLooks := .later }
def CommandKeepsUptoCardSaid : Prop := Claim7.holds Tryz.pinned (.plain (OpenSpec.upto commandKeepsSpec)) commandKeepsUptoCard
end Rows
end Go.Proofs.YthfopimgdikpgaaGreatDoor
