/-
  NARROWER THAN 'FOR EVERY INPUT', by the rows' own cells (each row's printed sentence says how): FlagNames: laid · FlagParses: laid · FlagLists: laid · FlagChanges: laid · FlagUndoes: laid · FlagOrder: laid.
  DERIVED. THE GIVEN ROWS OF THIS SEAT. 6 by the template 'for every input the law returns true; each argument reads behind the call as it read before'; 0 by the template 'total and deterministic' (their statements: YtchlmmglibladaaDoorTotals.lean).
  GIVEN WITH THE SEED: the statements are not yours to turn. If you find one false, say at which input.
  Laid BY PROGRAM, IN A SANDBOX (cutbox-rows.mjs): the forced cells as the released guide's own fill.sh prints them over the translation 47f2732d7a660e98… (all of the seat's roots in one cut). By AI agents, Wed Nov 11 2026. No macro, syntax, notation, axiom, sorry.
-/
import Derived.Test.YtchlmmglibladaaDoorChecked
import GoSem.PinnedTables
import GoSem.Claim
import GoSem.ClaimJoined
import GoSem.ClaimMapViews
import Derived.JoinedTies
import Derived.KernelRfl
namespace Go.Proofs.YtchlmmglibladaaDoor
/- THE CELL 'sum', in the pinned program and in every row, IS THE sha256 OF THE DUMP (.gsa) THAT YtchlmmglibladaaDoorProg.lean LOADS. Nothing in Lean hashes anything: it is a label: what it is worth is what the hold of that sum in a sandbox is worth. -/
noncomputable def Tryd.pinned : Pinned := { name := "ytchlmmglibladaadoor", sum := "47f2732d7a660e98437979615878f9183cb0bd75bdb0386535b4ef02b3c55dc1", checked := Tryd.checked }
namespace Rows
def none {H : Type} : Left H := { results := [], args := [] }

/- WHAT THE LISTED PACKAGE-LEVEL VARIABLES READ AS WHEN THE CALL BEGINS. Each datum BY PROGRAM (the guide's laid-datum.mjs) off the statement by which the dump's own 'gosem.cut.vars' lays the variable. In a bare row this is a premise. The card (YtchlmmglibladaaDoorCards.lean) ties it to the program's text. -/
def laid_unicode_utf8_acceptRanges {H : Type} : DataW H := .agg [.agg [.lit (.int .u8 128), .lit (.int .u8 191)], .agg [.lit (.int .u8 160), .lit (.int .u8 191)], .agg [.lit (.int .u8 128), .lit (.int .u8 159)], .agg [.lit (.int .u8 144), .lit (.int .u8 191)], .agg [.lit (.int .u8 128), .lit (.int .u8 143)], .agg [.lit (.int .u8 0), .lit (.int .u8 0)], .agg [.lit (.int .u8 0), .lit (.int .u8 0)], .agg [.lit (.int .u8 0), .lit (.int .u8 0)], .agg [.lit (.int .u8 0), .lit (.int .u8 0)], .agg [.lit (.int .u8 0), .lit (.int .u8 0)], .agg [.lit (.int .u8 0), .lit (.int .u8 0)], .agg [.lit (.int .u8 0), .lit (.int .u8 0)], .agg [.lit (.int .u8 0), .lit (.int .u8 0)], .agg [.lit (.int .u8 0), .lit (.int .u8 0)], .agg [.lit (.int .u8 0), .lit (.int .u8 0)], .agg [.lit (.int .u8 0), .lit (.int .u8 0)]]
/-- One of Go's own tables, pinned by name: the form's constant. -/
def laid_unicode_utf8_first : DataW Unit := Go.Pinned.utf8First

/-- 'cubbyholelaw03.FlagNames': WHATEVER THE INPUT: true; the input reads as it did. -/
def flagNamesSpec : ChangeSpec := { name := "flagNames", fn := fun _ => fun
  | [d] => { results := [.lit (.bool true)], args := [d] }
  | _ => none }
def flagNamesRow : OpenClaim := { program := "ytchlmmglibladaadoor", sum := "47f2732d7a660e98437979615878f9183cb0bd75bdb0386535b4ef02b3c55dc1", func := "cubbyhole/cubbyholelaw03.FlagNames", spec := "flagNames", inPlace := ["internal/bytealg.IndexByteString", "internal/bytealg.IndexString", "internal/abi.NoEscape", "internal/bytealg.MakeNoZero"], unfollowed := true, recurses := true, named := ["unicode/utf8.first", "unicode/utf8.acceptRanges", "internal/bytealg.MaxLen"], apart := false, laid := [("unicode/utf8.acceptRanges", laid_unicode_utf8_acceptRanges), ("unicode/utf8.first", laid_unicode_utf8_first)] }
def FlagNamesSaid : Prop := flagNamesRow.holds Tryd.pinned (OpenSpec.ofChange flagNamesSpec)

/-- ITS FALSE NEIGHBOUR: 'it returns false'. Refute it at one input. -/
def flagNamesWrong : ChangeSpec := { name := "flagNames", fn := fun _ => fun
  | [d] => { results := [.lit (.bool false)], args := [d] }
  | _ => none }
def FlagNamesWrongFalsely : Prop := flagNamesRow.holds Tryd.pinned (OpenSpec.ofChange flagNamesWrong)

/-- 'cubbyholelaw03.FlagParses': WHATEVER THE INPUT: true; the input reads as it did. -/
def flagParsesSpec : ChangeSpec := { name := "flagParses", fn := fun _ => fun
  | [d] => { results := [.lit (.bool true)], args := [d] }
  | _ => none }
def flagParsesRow : OpenClaim := { program := "ytchlmmglibladaadoor", sum := "47f2732d7a660e98437979615878f9183cb0bd75bdb0386535b4ef02b3c55dc1", func := "cubbyhole/cubbyholelaw03.FlagParses", spec := "flagParses", inPlace := ["internal/bytealg.IndexByteString", "internal/bytealg.IndexString", "internal/abi.NoEscape", "internal/bytealg.MakeNoZero"], unfollowed := true, recurses := true, named := ["unicode/utf8.first", "unicode/utf8.acceptRanges", "internal/bytealg.MaxLen"], apart := false, laid := [("unicode/utf8.acceptRanges", laid_unicode_utf8_acceptRanges), ("unicode/utf8.first", laid_unicode_utf8_first)] }
def FlagParsesSaid : Prop := flagParsesRow.holds Tryd.pinned (OpenSpec.ofChange flagParsesSpec)

/-- ITS FALSE NEIGHBOUR: 'it returns false'. Refute it at one input. -/
def flagParsesWrong : ChangeSpec := { name := "flagParses", fn := fun _ => fun
  | [d] => { results := [.lit (.bool false)], args := [d] }
  | _ => none }
def FlagParsesWrongFalsely : Prop := flagParsesRow.holds Tryd.pinned (OpenSpec.ofChange flagParsesWrong)

/-- 'cubbyholelaw03.FlagLists': WHATEVER THE INPUT: true; the input reads as it did. -/
def flagListsSpec : ChangeSpec := { name := "flagLists", fn := fun _ => fun
  | [d] => { results := [.lit (.bool true)], args := [d] }
  | _ => none }
def flagListsRow : OpenClaim := { program := "ytchlmmglibladaadoor", sum := "47f2732d7a660e98437979615878f9183cb0bd75bdb0386535b4ef02b3c55dc1", func := "cubbyhole/cubbyholelaw03.FlagLists", spec := "flagLists", inPlace := ["internal/abi.NoEscape", "internal/bytealg.MakeNoZero", "internal/bytealg.IndexByteString", "internal/bytealg.IndexString"], unfollowed := true, recurses := true, named := ["unicode/utf8.first", "unicode/utf8.acceptRanges", "internal/bytealg.MaxLen"], apart := false, laid := [("unicode/utf8.acceptRanges", laid_unicode_utf8_acceptRanges), ("unicode/utf8.first", laid_unicode_utf8_first)] }
def FlagListsSaid : Prop := flagListsRow.holds Tryd.pinned (OpenSpec.ofChange flagListsSpec)

/-- ITS FALSE NEIGHBOUR: 'it returns false'. Refute it at one input. -/
def flagListsWrong : ChangeSpec := { name := "flagLists", fn := fun _ => fun
  | [d] => { results := [.lit (.bool false)], args := [d] }
  | _ => none }
def FlagListsWrongFalsely : Prop := flagListsRow.holds Tryd.pinned (OpenSpec.ofChange flagListsWrong)

/-- 'cubbyholelaw03.FlagChanges': WHATEVER THE INPUT: true; the input reads as it did. -/
def flagChangesSpec : ChangeSpec := { name := "flagChanges", fn := fun _ => fun
  | [d1, d2, d3] => { results := [.lit (.bool true)], args := [d1, d2, d3] }
  | _ => none }
def flagChangesRow : OpenClaim := { program := "ytchlmmglibladaadoor", sum := "47f2732d7a660e98437979615878f9183cb0bd75bdb0386535b4ef02b3c55dc1", func := "cubbyhole/cubbyholelaw03.FlagChanges", spec := "flagChanges", inPlace := ["internal/bytealg.IndexByteString", "internal/bytealg.IndexString", "internal/abi.NoEscape", "internal/bytealg.MakeNoZero"], unfollowed := true, recurses := true, named := ["unicode/utf8.first", "unicode/utf8.acceptRanges", "internal/bytealg.MaxLen"], apart := false, laid := [("unicode/utf8.acceptRanges", laid_unicode_utf8_acceptRanges), ("unicode/utf8.first", laid_unicode_utf8_first)] }
def FlagChangesSaid : Prop := flagChangesRow.holds Tryd.pinned (OpenSpec.ofChange flagChangesSpec)

/-- ITS FALSE NEIGHBOUR: 'it returns false'. Refute it at one input. -/
def flagChangesWrong : ChangeSpec := { name := "flagChanges", fn := fun _ => fun
  | [d1, d2, d3] => { results := [.lit (.bool false)], args := [d1, d2, d3] }
  | _ => none }
def FlagChangesWrongFalsely : Prop := flagChangesRow.holds Tryd.pinned (OpenSpec.ofChange flagChangesWrong)

/-- 'cubbyholelaw03.FlagUndoes': WHATEVER THE INPUT: true; the input reads as it did. -/
def flagUndoesSpec : ChangeSpec := { name := "flagUndoes", fn := fun _ => fun
  | [d1, d2] => { results := [.lit (.bool true)], args := [d1, d2] }
  | _ => none }
def flagUndoesRow : OpenClaim := { program := "ytchlmmglibladaadoor", sum := "47f2732d7a660e98437979615878f9183cb0bd75bdb0386535b4ef02b3c55dc1", func := "cubbyhole/cubbyholelaw03.FlagUndoes", spec := "flagUndoes", inPlace := ["internal/bytealg.IndexByteString", "internal/bytealg.IndexString", "internal/abi.NoEscape", "internal/bytealg.MakeNoZero"], unfollowed := true, recurses := true, named := ["unicode/utf8.first", "unicode/utf8.acceptRanges", "internal/bytealg.MaxLen"], apart := false, laid := [("unicode/utf8.acceptRanges", laid_unicode_utf8_acceptRanges), ("unicode/utf8.first", laid_unicode_utf8_first)] }
def FlagUndoesSaid : Prop := flagUndoesRow.holds Tryd.pinned (OpenSpec.ofChange flagUndoesSpec)

/-- ITS FALSE NEIGHBOUR: 'it returns false'. Refute it at one input. -/
def flagUndoesWrong : ChangeSpec := { name := "flagUndoes", fn := fun _ => fun
  | [d1, d2] => { results := [.lit (.bool false)], args := [d1, d2] }
  | _ => none }
def FlagUndoesWrongFalsely : Prop := flagUndoesRow.holds Tryd.pinned (OpenSpec.ofChange flagUndoesWrong)

/-- 'cubbyholelaw03.FlagOrder': WHATEVER THE INPUT: true; the input reads as it did. -/
def flagOrderSpec : ChangeSpec := { name := "flagOrder", fn := fun _ => fun
  | [d1, d2] => { results := [.lit (.bool true)], args := [d1, d2] }
  | _ => none }
def flagOrderRow : OpenClaim := { program := "ytchlmmglibladaadoor", sum := "47f2732d7a660e98437979615878f9183cb0bd75bdb0386535b4ef02b3c55dc1", func := "cubbyhole/cubbyholelaw03.FlagOrder", spec := "flagOrder", inPlace := ["internal/bytealg.IndexByteString", "internal/bytealg.IndexString", "internal/abi.NoEscape", "internal/bytealg.MakeNoZero"], unfollowed := true, recurses := true, named := ["unicode/utf8.first", "unicode/utf8.acceptRanges", "internal/bytealg.MaxLen"], apart := false, laid := [("unicode/utf8.acceptRanges", laid_unicode_utf8_acceptRanges), ("unicode/utf8.first", laid_unicode_utf8_first)] }
def FlagOrderSaid : Prop := flagOrderRow.holds Tryd.pinned (OpenSpec.ofChange flagOrderSpec)

/-- ITS FALSE NEIGHBOUR: 'it returns false'. Refute it at one input. -/
def flagOrderWrong : ChangeSpec := { name := "flagOrder", fn := fun _ => fun
  | [d1, d2] => { results := [.lit (.bool false)], args := [d1, d2] }
  | _ => none }
def FlagOrderWrongFalsely : Prop := flagOrderRow.holds Tryd.pinned (OpenSpec.ofChange flagOrderWrong)

/- THE SECOND FORM. 'bulk': how many values and letters a reading holds, each counted each time it is reached (what is shared counts as often as it is met; a slice's spare places count too). A statement '..UptoSaid' is the law's where the arguments, and the package variables that the reading takes, are together of bulk at most 1048576: NARROWER than '..Said'. Prove '..Said' where nothing that the law and all that it calls make is longer than what came in: it says more and counts as full. Else prove '..UptoSaid'. A law counts once. -/
mutual
def uptoBulk {H : Type} : DataW H → Nat
  | .lit (.string bytes) => bytes.length + 1
  | .lit _ => 1
  | .nil => 1
  | .ptr d => uptoBulk d + 1
  | .slice elems spare => uptoBulkAll elems + uptoBulkAll spare + 1
  | .agg parts => uptoBulkAll parts + 1
  | .iface _ d => uptoBulk d + 1
  | .map entries => uptoBulkEntries entries + 1
  | .held _ => 1
def uptoBulkAll {H : Type} : List (DataW H) → Nat
  | [] => 0
  | d :: r => uptoBulk d + uptoBulkAll r
def uptoBulkEntries {H : Type} : List (Lit × DataW H) → Nat
  | [] => 0
  | x :: r => uptoBulkEntry x + uptoBulkEntries r
def uptoBulkEntry {H : Type} : Lit × DataW H → Nat
  | (.string bytes, d) => bytes.length + uptoBulk d + 1
  | (_, d) => uptoBulk d + 1
 end
def uptoSmall : (H : Type) → List (DataW H) → Bool := fun _ ds => decide (uptoBulkAll ds ≤ 1048576)
def OpenSpec.upto (s : _root_.Go.ChangeSpec) : _root_.Go.OpenSpec := { _root_.Go.OpenSpec.ofChange s with cond := some uptoSmall }

/-- 'cubbyholelaw03.FlagNames', WHERE WHAT IT READS IS OF BULK AT MOST 1048576: true; the input reads as it did. -/
def flagNamesUptoRow : OpenClaim := { program := "ytchlmmglibladaadoor", sum := "47f2732d7a660e98437979615878f9183cb0bd75bdb0386535b4ef02b3c55dc1", func := "cubbyhole/cubbyholelaw03.FlagNames", spec := "flagNames", inPlace := ["internal/bytealg.IndexByteString", "internal/bytealg.IndexString", "internal/abi.NoEscape", "internal/bytealg.MakeNoZero"], unfollowed := true, recurses := true, named := ["unicode/utf8.first", "unicode/utf8.acceptRanges", "internal/bytealg.MaxLen"], apart := false, laid := [("unicode/utf8.acceptRanges", laid_unicode_utf8_acceptRanges), ("unicode/utf8.first", laid_unicode_utf8_first)], narrowed := true }
def FlagNamesUptoSaid : Prop := flagNamesUptoRow.holds Tryd.pinned (OpenSpec.upto flagNamesSpec)

/-- 'cubbyholelaw03.FlagParses', WHERE WHAT IT READS IS OF BULK AT MOST 1048576: true; the input reads as it did. -/
def flagParsesUptoRow : OpenClaim := { program := "ytchlmmglibladaadoor", sum := "47f2732d7a660e98437979615878f9183cb0bd75bdb0386535b4ef02b3c55dc1", func := "cubbyhole/cubbyholelaw03.FlagParses", spec := "flagParses", inPlace := ["internal/bytealg.IndexByteString", "internal/bytealg.IndexString", "internal/abi.NoEscape", "internal/bytealg.MakeNoZero"], unfollowed := true, recurses := true, named := ["unicode/utf8.first", "unicode/utf8.acceptRanges", "internal/bytealg.MaxLen"], apart := false, laid := [("unicode/utf8.acceptRanges", laid_unicode_utf8_acceptRanges), ("unicode/utf8.first", laid_unicode_utf8_first)], narrowed := true }
def FlagParsesUptoSaid : Prop := flagParsesUptoRow.holds Tryd.pinned (OpenSpec.upto flagParsesSpec)

/-- 'cubbyholelaw03.FlagLists', WHERE WHAT IT READS IS OF BULK AT MOST 1048576: true; the input reads as it did. -/
def flagListsUptoRow : OpenClaim := { program := "ytchlmmglibladaadoor", sum := "47f2732d7a660e98437979615878f9183cb0bd75bdb0386535b4ef02b3c55dc1", func := "cubbyhole/cubbyholelaw03.FlagLists", spec := "flagLists", inPlace := ["internal/abi.NoEscape", "internal/bytealg.MakeNoZero", "internal/bytealg.IndexByteString", "internal/bytealg.IndexString"], unfollowed := true, recurses := true, named := ["unicode/utf8.first", "unicode/utf8.acceptRanges", "internal/bytealg.MaxLen"], apart := false, laid := [("unicode/utf8.acceptRanges", laid_unicode_utf8_acceptRanges), ("unicode/utf8.first", laid_unicode_utf8_first)], narrowed := true }
def FlagListsUptoSaid : Prop := flagListsUptoRow.holds Tryd.pinned (OpenSpec.upto flagListsSpec)

/-- 'cubbyholelaw03.FlagChanges', WHERE WHAT IT READS IS OF BULK AT MOST 1048576: true; the input reads as it did. -/
def flagChangesUptoRow : OpenClaim := { program := "ytchlmmglibladaadoor", sum := "47f2732d7a660e98437979615878f9183cb0bd75bdb0386535b4ef02b3c55dc1", func := "cubbyhole/cubbyholelaw03.FlagChanges", spec := "flagChanges", inPlace := ["internal/bytealg.IndexByteString", "internal/bytealg.IndexString", "internal/abi.NoEscape", "internal/bytealg.MakeNoZero"], unfollowed := true, recurses := true, named := ["unicode/utf8.first", "unicode/utf8.acceptRanges", "internal/bytealg.MaxLen"], apart := false, laid := [("unicode/utf8.acceptRanges", laid_unicode_utf8_acceptRanges), ("unicode/utf8.first", laid_unicode_utf8_first)], narrowed := true }
def FlagChangesUptoSaid : Prop := flagChangesUptoRow.holds Tryd.pinned (OpenSpec.upto flagChangesSpec)

/-- 'cubbyholelaw03.FlagUndoes', WHERE WHAT IT READS IS OF BULK AT MOST 1048576: true; the input reads as it did. -/
def flagUndoesUptoRow : OpenClaim := { program := "ytchlmmglibladaadoor", sum := "47f2732d7a660e98437979615878f9183cb0bd75bdb0386535b4ef02b3c55dc1", func := "cubbyhole/cubbyholelaw03.FlagUndoes", spec := "flagUndoes", inPlace := ["internal/bytealg.IndexByteString", "internal/bytealg.IndexString", "internal/abi.NoEscape", "internal/bytealg.MakeNoZero"], unfollowed := true, recurses := true, named := ["unicode/utf8.first", "unicode/utf8.acceptRanges", "internal/bytealg.MaxLen"], apart := false, laid := [("unicode/utf8.acceptRanges", laid_unicode_utf8_acceptRanges), ("unicode/utf8.first", laid_unicode_utf8_first)], narrowed := true }
def FlagUndoesUptoSaid : Prop := flagUndoesUptoRow.holds Tryd.pinned (OpenSpec.upto flagUndoesSpec)

/-- 'cubbyholelaw03.FlagOrder', WHERE WHAT IT READS IS OF BULK AT MOST 1048576: true; the input reads as it did. -/
def flagOrderUptoRow : OpenClaim := { program := "ytchlmmglibladaadoor", sum := "47f2732d7a660e98437979615878f9183cb0bd75bdb0386535b4ef02b3c55dc1", func := "cubbyhole/cubbyholelaw03.FlagOrder", spec := "flagOrder", inPlace := ["internal/bytealg.IndexByteString", "internal/bytealg.IndexString", "internal/abi.NoEscape", "internal/bytealg.MakeNoZero"], unfollowed := true, recurses := true, named := ["unicode/utf8.first", "unicode/utf8.acceptRanges", "internal/bytealg.MaxLen"], apart := false, laid := [("unicode/utf8.acceptRanges", laid_unicode_utf8_acceptRanges), ("unicode/utf8.first", laid_unicode_utf8_first)], narrowed := true }
def FlagOrderUptoSaid : Prop := flagOrderUptoRow.holds Tryd.pinned (OpenSpec.upto flagOrderSpec)

end Rows
end Go.Proofs.YtchlmmglibladaaDoor
