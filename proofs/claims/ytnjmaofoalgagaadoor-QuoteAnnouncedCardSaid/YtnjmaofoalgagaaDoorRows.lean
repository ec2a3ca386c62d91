/-
  NARROWER THAN 'FOR EVERY INPUT', by the rows' own cells (each row's printed sentence says how): QuoteForms: laid · QuoteAnnounces: laid · QuoteScans: laid · QuoteInverse: laid · QuoteAnnounced: laid · QuoteKeeps: laid.
  DERIVED. THE GIVEN ROWS OF THIS SEAT. 6 by the template 'for every input the law returns true; each argument reads behind the call as it read before'; 0 by the template 'total and deterministic' (their statements: YtnjmaofoalgagaaDoorTotals.lean).
  GIVEN WITH THE SEED: the statements are not yours to turn. If you find one false, say at which input.
  Laid BY PROGRAM, IN A SANDBOX (cutbox-rows.mjs): the forced cells as the released guide's own fill.sh prints them over the translation 7d43da05a0c4ad3c… (all of the seat's roots in one cut). By AI agents, Wed Nov 11 2026. No macro, syntax, notation, axiom, sorry.
-/
import Derived.Test.YtnjmaofoalgagaaDoorChecked
import GoSem.Claim
import GoSem.ClaimJoined
import GoSem.ClaimMapViews
import Derived.JoinedTies
import Derived.KernelRfl
namespace Go.Proofs.YtnjmaofoalgagaaDoor
/- THE CELL 'sum', in the pinned program and in every row, IS THE sha256 OF THE DUMP (.gsa) THAT YtnjmaofoalgagaaDoorProg.lean LOADS. Nothing in Lean hashes anything: it is a label: what it is worth is what the hold of that sum in a sandbox is worth. -/
noncomputable def Tryd.pinned : Pinned := { name := "ytnjmaofoalgagaadoor", sum := "7d43da05a0c4ad3c173b5fbc8a99e175ecbf2ccc205b76fb74ab0206306bcd03", checked := Tryd.checked }
namespace Rows
def none {H : Type} : Left H := { results := [], args := [] }

/- WHAT THE LISTED PACKAGE-LEVEL VARIABLES READ AS WHEN THE CALL BEGINS. Each datum BY PROGRAM (the guide's laid-datum.mjs) off the statement by which the dump's own 'gosem.cut.vars' lays the variable. In a bare row this is a premise. The card (YtnjmaofoalgagaaDoorCards.lean) ties it to the program's text. -/
def laid_math_bits_deBruijn32tab {H : Type} : DataW H := .agg [.lit (.int .u8 0), .lit (.int .u8 1), .lit (.int .u8 28), .lit (.int .u8 2), .lit (.int .u8 29), .lit (.int .u8 14), .lit (.int .u8 24), .lit (.int .u8 3), .lit (.int .u8 30), .lit (.int .u8 22), .lit (.int .u8 20), .lit (.int .u8 15), .lit (.int .u8 25), .lit (.int .u8 17), .lit (.int .u8 4), .lit (.int .u8 8), .lit (.int .u8 31), .lit (.int .u8 27), .lit (.int .u8 13), .lit (.int .u8 23), .lit (.int .u8 21), .lit (.int .u8 19), .lit (.int .u8 16), .lit (.int .u8 7), .lit (.int .u8 26), .lit (.int .u8 12), .lit (.int .u8 18), .lit (.int .u8 6), .lit (.int .u8 11), .lit (.int .u8 5), .lit (.int .u8 10), .lit (.int .u8 9)]
def laid_math_bits_deBruijn64tab {H : Type} : DataW H := .agg [.lit (.int .u8 0), .lit (.int .u8 1), .lit (.int .u8 56), .lit (.int .u8 2), .lit (.int .u8 57), .lit (.int .u8 49), .lit (.int .u8 28), .lit (.int .u8 3), .lit (.int .u8 61), .lit (.int .u8 58), .lit (.int .u8 42), .lit (.int .u8 50), .lit (.int .u8 38), .lit (.int .u8 29), .lit (.int .u8 17), .lit (.int .u8 4), .lit (.int .u8 62), .lit (.int .u8 47), .lit (.int .u8 59), .lit (.int .u8 36), .lit (.int .u8 45), .lit (.int .u8 43), .lit (.int .u8 51), .lit (.int .u8 22), .lit (.int .u8 53), .lit (.int .u8 39), .lit (.int .u8 33), .lit (.int .u8 30), .lit (.int .u8 24), .lit (.int .u8 18), .lit (.int .u8 12), .lit (.int .u8 5), .lit (.int .u8 63), .lit (.int .u8 55), .lit (.int .u8 48), .lit (.int .u8 27), .lit (.int .u8 60), .lit (.int .u8 41), .lit (.int .u8 37), .lit (.int .u8 16), .lit (.int .u8 46), .lit (.int .u8 35), .lit (.int .u8 44), .lit (.int .u8 21), .lit (.int .u8 52), .lit (.int .u8 32), .lit (.int .u8 23), .lit (.int .u8 11), .lit (.int .u8 54), .lit (.int .u8 26), .lit (.int .u8 40), .lit (.int .u8 15), .lit (.int .u8 34), .lit (.int .u8 20), .lit (.int .u8 31), .lit (.int .u8 10), .lit (.int .u8 25), .lit (.int .u8 14), .lit (.int .u8 19), .lit (.int .u8 9), .lit (.int .u8 13), .lit (.int .u8 8), .lit (.int .u8 7), .lit (.int .u8 6)]
def laid_internal_strconv_uint64pow10 {H : Type} : DataW H := .agg [.lit (.int .u64 1), .lit (.int .u64 10), .lit (.int .u64 100), .lit (.int .u64 1000), .lit (.int .u64 10000), .lit (.int .u64 100000), .lit (.int .u64 1000000), .lit (.int .u64 10000000), .lit (.int .u64 100000000), .lit (.int .u64 1000000000), .lit (.int .u64 10000000000), .lit (.int .u64 100000000000), .lit (.int .u64 1000000000000), .lit (.int .u64 10000000000000), .lit (.int .u64 100000000000000), .lit (.int .u64 1000000000000000), .lit (.int .u64 10000000000000000), .lit (.int .u64 100000000000000000), .lit (.int .u64 1000000000000000000), .lit (.int .u64 10000000000000000000)]
def laid_strconv_ErrRange {H : Type} : DataW H := .iface "*errors.errorString" (.ptr (.agg [.lit (.string [118, 97, 108, 117, 101, 32, 111, 117, 116, 32, 111, 102, 32, 114, 97, 110, 103, 101])]))
def laid_strconv_ErrSyntax {H : Type} : DataW H := .iface "*errors.errorString" (.ptr (.agg [.lit (.string [105, 110, 118, 97, 108, 105, 100, 32, 115, 121, 110, 116, 97, 120])]))

/-- 'cubbyholelaw04.QuoteForms': WHATEVER THE INPUT: true; the input reads as it did. -/
def quoteFormsSpec : ChangeSpec := { name := "quoteForms", fn := fun _ => fun
  | [d] => { results := [.lit (.bool true)], args := [d] }
  | _ => none }
def quoteFormsRow : OpenClaim := { program := "ytnjmaofoalgagaadoor", sum := "7d43da05a0c4ad3c173b5fbc8a99e175ecbf2ccc205b76fb74ab0206306bcd03", func := "cubbyhole/cubbyholelaw04.QuoteForms", spec := "quoteForms", unfollowed := true, recurses := true, named := ["strconv.ErrSyntax", "strconv.ErrRange", "internal/strconv.uint64pow10", "math/bits.deBruijn32tab", "math/bits.deBruijn64tab"], apart := false, laid := [("math/bits.deBruijn32tab", laid_math_bits_deBruijn32tab), ("math/bits.deBruijn64tab", laid_math_bits_deBruijn64tab), ("internal/strconv.uint64pow10", laid_internal_strconv_uint64pow10), ("strconv.ErrRange", laid_strconv_ErrRange), ("strconv.ErrSyntax", laid_strconv_ErrSyntax)] }
def QuoteFormsSaid : Prop := quoteFormsRow.holds Tryd.pinned (OpenSpec.ofChange quoteFormsSpec)

/-- ITS FALSE NEIGHBOUR: 'it returns false'. Refute it at one input. -/
def quoteFormsWrong : ChangeSpec := { name := "quoteForms", fn := fun _ => fun
  | [d] => { results := [.lit (.bool false)], args := [d] }
  | _ => none }
def QuoteFormsWrongFalsely : Prop := quoteFormsRow.holds Tryd.pinned (OpenSpec.ofChange quoteFormsWrong)

/-- 'cubbyholelaw04.QuoteAnnounces': WHATEVER THE INPUT: true; the input reads as it did. -/
def quoteAnnouncesSpec : ChangeSpec := { name := "quoteAnnounces", fn := fun _ => fun
  | [d] => { results := [.lit (.bool true)], args := [d] }
  | _ => none }
def quoteAnnouncesRow : OpenClaim := { program := "ytnjmaofoalgagaadoor", sum := "7d43da05a0c4ad3c173b5fbc8a99e175ecbf2ccc205b76fb74ab0206306bcd03", func := "cubbyhole/cubbyholelaw04.QuoteAnnounces", spec := "quoteAnnounces", unfollowed := true, recurses := true, named := ["strconv.ErrSyntax", "strconv.ErrRange", "internal/strconv.uint64pow10", "math/bits.deBruijn32tab", "math/bits.deBruijn64tab"], apart := false, laid := [("math/bits.deBruijn32tab", laid_math_bits_deBruijn32tab), ("math/bits.deBruijn64tab", laid_math_bits_deBruijn64tab), ("internal/strconv.uint64pow10", laid_internal_strconv_uint64pow10), ("strconv.ErrRange", laid_strconv_ErrRange), ("strconv.ErrSyntax", laid_strconv_ErrSyntax)] }
def QuoteAnnouncesSaid : Prop := quoteAnnouncesRow.holds Tryd.pinned (OpenSpec.ofChange quoteAnnouncesSpec)

/-- ITS FALSE NEIGHBOUR: 'it returns false'. Refute it at one input. -/
def quoteAnnouncesWrong : ChangeSpec := { name := "quoteAnnounces", fn := fun _ => fun
  | [d] => { results := [.lit (.bool false)], args := [d] }
  | _ => none }
def QuoteAnnouncesWrongFalsely : Prop := quoteAnnouncesRow.holds Tryd.pinned (OpenSpec.ofChange quoteAnnouncesWrong)

/-- 'cubbyholelaw04.QuoteScans': WHATEVER THE INPUT: true; the input reads as it did. -/
def quoteScansSpec : ChangeSpec := { name := "quoteScans", fn := fun _ => fun
  | [d1, d2] => { results := [.lit (.bool true)], args := [d1, d2] }
  | _ => none }
def quoteScansRow : OpenClaim := { program := "ytnjmaofoalgagaadoor", sum := "7d43da05a0c4ad3c173b5fbc8a99e175ecbf2ccc205b76fb74ab0206306bcd03", func := "cubbyhole/cubbyholelaw04.QuoteScans", spec := "quoteScans", inPlace := ["internal/bytealg.IndexByte"], unfollowed := true, recurses := true, named := ["strconv.ErrSyntax", "strconv.ErrRange", "internal/strconv.uint64pow10", "math/bits.deBruijn32tab", "math/bits.deBruijn64tab"], apart := false, laid := [("math/bits.deBruijn32tab", laid_math_bits_deBruijn32tab), ("math/bits.deBruijn64tab", laid_math_bits_deBruijn64tab), ("internal/strconv.uint64pow10", laid_internal_strconv_uint64pow10), ("strconv.ErrRange", laid_strconv_ErrRange), ("strconv.ErrSyntax", laid_strconv_ErrSyntax)] }
def QuoteScansSaid : Prop := quoteScansRow.holds Tryd.pinned (OpenSpec.ofChange quoteScansSpec)

/-- ITS FALSE NEIGHBOUR: 'it returns false'. Refute it at one input. -/
def quoteScansWrong : ChangeSpec := { name := "quoteScans", fn := fun _ => fun
  | [d1, d2] => { results := [.lit (.bool false)], args := [d1, d2] }
  | _ => none }
def QuoteScansWrongFalsely : Prop := quoteScansRow.holds Tryd.pinned (OpenSpec.ofChange quoteScansWrong)

/-- 'cubbyholelaw04.QuoteInverse': WHATEVER THE INPUT: true; the input reads as it did. -/
def quoteInverseSpec : ChangeSpec := { name := "quoteInverse", fn := fun _ => fun
  | [d1, d2, d3] => { results := [.lit (.bool true)], args := [d1, d2, d3] }
  | _ => none }
def quoteInverseRow : OpenClaim := { program := "ytnjmaofoalgagaadoor", sum := "7d43da05a0c4ad3c173b5fbc8a99e175ecbf2ccc205b76fb74ab0206306bcd03", func := "cubbyhole/cubbyholelaw04.QuoteInverse", spec := "quoteInverse", inPlace := ["internal/bytealg.IndexByte"], unfollowed := true, recurses := true, named := ["strconv.ErrSyntax", "strconv.ErrRange", "internal/strconv.uint64pow10", "math/bits.deBruijn32tab", "math/bits.deBruijn64tab"], apart := false, laid := [("math/bits.deBruijn32tab", laid_math_bits_deBruijn32tab), ("math/bits.deBruijn64tab", laid_math_bits_deBruijn64tab), ("internal/strconv.uint64pow10", laid_internal_strconv_uint64pow10), ("strconv.ErrRange", laid_strconv_ErrRange), ("strconv.ErrSyntax", laid_strconv_ErrSyntax)] }
def QuoteInverseSaid : Prop := quoteInverseRow.holds Tryd.pinned (OpenSpec.ofChange quoteInverseSpec)

/-- ITS FALSE NEIGHBOUR: 'it returns false'. Refute it at one input. -/
def quoteInverseWrong : ChangeSpec := { name := "quoteInverse", fn := fun _ => fun
  | [d1, d2, d3] => { results := [.lit (.bool false)], args := [d1, d2, d3] }
  | _ => none }
def QuoteInverseWrongFalsely : Prop := quoteInverseRow.holds Tryd.pinned (OpenSpec.ofChange quoteInverseWrong)

/-- 'cubbyholelaw04.QuoteAnnounced': WHATEVER THE INPUT: true; the input reads as it did. -/
def quoteAnnouncedSpec : ChangeSpec := { name := "quoteAnnounced", fn := fun _ => fun
  | [d1, d2] => { results := [.lit (.bool true)], args := [d1, d2] }
  | _ => none }
def quoteAnnouncedRow : OpenClaim := { program := "ytnjmaofoalgagaadoor", sum := "7d43da05a0c4ad3c173b5fbc8a99e175ecbf2ccc205b76fb74ab0206306bcd03", func := "cubbyhole/cubbyholelaw04.QuoteAnnounced", spec := "quoteAnnounced", unfollowed := true, recurses := true, named := ["strconv.ErrSyntax", "strconv.ErrRange", "internal/strconv.uint64pow10", "math/bits.deBruijn32tab", "math/bits.deBruijn64tab"], apart := false, laid := [("math/bits.deBruijn32tab", laid_math_bits_deBruijn32tab), ("math/bits.deBruijn64tab", laid_math_bits_deBruijn64tab), ("internal/strconv.uint64pow10", laid_internal_strconv_uint64pow10), ("strconv.ErrRange", laid_strconv_ErrRange), ("strconv.ErrSyntax", laid_strconv_ErrSyntax)] }
def QuoteAnnouncedSaid : Prop := quoteAnnouncedRow.holds Tryd.pinned (OpenSpec.ofChange quoteAnnouncedSpec)

/-- ITS FALSE NEIGHBOUR: 'it returns false'. Refute it at one input. -/
def quoteAnnouncedWrong : ChangeSpec := { name := "quoteAnnounced", fn := fun _ => fun
  | [d1, d2] => { results := [.lit (.bool false)], args := [d1, d2] }
  | _ => none }
def QuoteAnnouncedWrongFalsely : Prop := quoteAnnouncedRow.holds Tryd.pinned (OpenSpec.ofChange quoteAnnouncedWrong)

/-- 'cubbyholelaw04.QuoteKeeps': WHATEVER THE INPUT: true; the input reads as it did. -/
def quoteKeepsSpec : ChangeSpec := { name := "quoteKeeps", fn := fun _ => fun
  | [d] => { results := [.lit (.bool true)], args := [d] }
  | _ => none }
def quoteKeepsRow : OpenClaim := { program := "ytnjmaofoalgagaadoor", sum := "7d43da05a0c4ad3c173b5fbc8a99e175ecbf2ccc205b76fb74ab0206306bcd03", func := "cubbyhole/cubbyholelaw04.QuoteKeeps", spec := "quoteKeeps", inPlace := ["internal/bytealg.IndexByte"], unfollowed := true, recurses := true, named := ["strconv.ErrSyntax", "strconv.ErrRange", "internal/strconv.uint64pow10", "math/bits.deBruijn32tab", "math/bits.deBruijn64tab"], apart := false, laid := [("math/bits.deBruijn32tab", laid_math_bits_deBruijn32tab), ("math/bits.deBruijn64tab", laid_math_bits_deBruijn64tab), ("internal/strconv.uint64pow10", laid_internal_strconv_uint64pow10), ("strconv.ErrRange", laid_strconv_ErrRange), ("strconv.ErrSyntax", laid_strconv_ErrSyntax)] }
def QuoteKeepsSaid : Prop := quoteKeepsRow.holds Tryd.pinned (OpenSpec.ofChange quoteKeepsSpec)

/-- ITS FALSE NEIGHBOUR: 'it returns false'. Refute it at one input. -/
def quoteKeepsWrong : ChangeSpec := { name := "quoteKeeps", fn := fun _ => fun
  | [d] => { results := [.lit (.bool false)], args := [d] }
  | _ => none }
def QuoteKeepsWrongFalsely : Prop := quoteKeepsRow.holds Tryd.pinned (OpenSpec.ofChange quoteKeepsWrong)

/- THE SECOND FORM. 'bulk': how many values and letters a reading holds, each counted each time it is reached (what is shared counts as often as it is met; a slice's spare places count too). A statement '..UptoSaid' is the law's where the arguments, and the package variables that the reading takes, are together of bulk at most 1048576: NARROWER than '..Said'. Prove '..Said' where nothing that the law and all that it calls make is longer than what came in: it says more and counts as full. Else prove '..UptoSaid'. A law counts once. -/
mutual
def uptoBulk {H : Type} : DataW H → Nat
  | .lit (.string bytes) => bytes.length + 1
  | .lit _ => 1
  | .nil => 1
  | .ptr d => uptoBulk d + 1
  | .slice elems spare => uptoBulkAll elems + uptoBulkAll spare + 1
  | .agg parts => uptoBulkAll parts + 1
  | .iface _ d => uptoBulk d + 1
  | .map entries => uptoBulkEntries entries + 1
  | .held _ => 1
def uptoBulkAll {H : Type} : List (DataW H) → Nat
  | [] => 0
  | d :: r => uptoBulk d + uptoBulkAll r
def uptoBulkEntries {H : Type} : List (Lit × DataW H) → Nat
  | [] => 0
  | x :: r => uptoBulkEntry x + uptoBulkEntries r
def uptoBulkEntry {H : Type} : Lit × DataW H → Nat
  | (.string bytes, d) => bytes.length + uptoBulk d + 1
  | (_, d) => uptoBulk d + 1
 end
def uptoSmall : (H : Type) → List (DataW H) → Bool := fun _ ds => decide (uptoBulkAll ds ≤ 1048576)
def OpenSpec.upto (s : _root_.Go.ChangeSpec) : _root_.Go.OpenSpec := { _root_.Go.OpenSpec.ofChange s with cond := some uptoSmall }

/-- 'cubbyholelaw04.QuoteForms', WHERE WHAT IT READS IS OF BULK AT MOST 1048576: true; the input reads as it did. -/
def quoteFormsUptoRow : OpenClaim := { program := "ytnjmaofoalgagaadoor", sum := "7d43da05a0c4ad3c173b5fbc8a99e175ecbf2ccc205b76fb74ab0206306bcd03", func := "cubbyhole/cubbyholelaw04.QuoteForms", spec := "quoteForms", unfollowed := true, recurses := true, named := ["strconv.ErrSyntax", "strconv.ErrRange", "internal/strconv.uint64pow10", "math/bits.deBruijn32tab", "math/bits.deBruijn64tab"], apart := false, laid := [("math/bits.deBruijn32tab", laid_math_bits_deBruijn32tab), ("math/bits.deBruijn64tab", laid_math_bits_deBruijn64tab), ("internal/strconv.uint64pow10", laid_internal_strconv_uint64pow10), ("strconv.ErrRange", laid_strconv_ErrRange), ("strconv.ErrSyntax", laid_strconv_ErrSyntax)], narrowed := true }
def QuoteFormsUptoSaid : Prop := quoteFormsUptoRow.holds Tryd.pinned (OpenSpec.upto quoteFormsSpec)

/-- 'cubbyholelaw04.QuoteAnnounces', WHERE WHAT IT READS IS OF BULK AT MOST 1048576: true; the input reads as it did. -/
def quoteAnnouncesUptoRow : OpenClaim := { program := "ytnjmaofoalgagaadoor", sum := "7d43da05a0c4ad3c173b5fbc8a99e175ecbf2ccc205b76fb74ab0206306bcd03", func := "cubbyhole/cubbyholelaw04.QuoteAnnounces", spec := "quoteAnnounces", unfollowed := true, recurses := true, named := ["strconv.ErrSyntax", "strconv.ErrRange", "internal/strconv.uint64pow10", "math/bits.deBruijn32tab", "math/bits.deBruijn64tab"], apart := false, laid := [("math/bits.deBruijn32tab", laid_math_bits_deBruijn32tab), ("math/bits.deBruijn64tab", laid_math_bits_deBruijn64tab), ("internal/strconv.uint64pow10", laid_internal_strconv_uint64pow10), ("strconv.ErrRange", laid_strconv_ErrRange), ("strconv.ErrSyntax", laid_strconv_ErrSyntax)], narrowed := true }
def QuoteAnnouncesUptoSaid : Prop := quoteAnnouncesUptoRow.holds Tryd.pinned (OpenSpec.upto quoteAnnouncesSpec)

/-- 'cubbyholelaw04.QuoteScans', WHERE WHAT IT READS IS OF BULK AT MOST 1048576: true; the input reads as it did. -/
def quoteScansUptoRow : OpenClaim := { program := "ytnjmaofoalgagaadoor", sum := "7d43da05a0c4ad3c173b5fbc8a99e175ecbf2ccc205b76fb74ab0206306bcd03", func := "cubbyhole/cubbyholelaw04.QuoteScans", spec := "quoteScans", inPlace := ["internal/bytealg.IndexByte"], unfollowed := true, recurses := true, named := ["strconv.ErrSyntax", "strconv.ErrRange", "internal/strconv.uint64pow10", "math/bits.deBruijn32tab", "math/bits.deBruijn64tab"], apart := false, laid := [("math/bits.deBruijn32tab", laid_math_bits_deBruijn32tab), ("math/bits.deBruijn64tab", laid_math_bits_deBruijn64tab), ("internal/strconv.uint64pow10", laid_internal_strconv_uint64pow10), ("strconv.ErrRange", laid_strconv_ErrRange), ("strconv.ErrSyntax", laid_strconv_ErrSyntax)], narrowed := true }
def QuoteScansUptoSaid : Prop := quoteScansUptoRow.holds Tryd.pinned (OpenSpec.upto quoteScansSpec)

/-- 'cubbyholelaw04.QuoteInverse', WHERE WHAT IT READS IS OF BULK AT MOST 1048576: true; the input reads as it did. -/
def quoteInverseUptoRow : OpenClaim := { program := "ytnjmaofoalgagaadoor", sum := "7d43da05a0c4ad3c173b5fbc8a99e175ecbf2ccc205b76fb74ab0206306bcd03", func := "cubbyhole/cubbyholelaw04.QuoteInverse", spec := "quoteInverse", inPlace := ["internal/bytealg.IndexByte"], unfollowed := true, recurses := true, named := ["strconv.ErrSyntax", "strconv.ErrRange", "internal/strconv.uint64pow10", "math/bits.deBruijn32tab", "math/bits.deBruijn64tab"], apart := false, laid := [("math/bits.deBruijn32tab", laid_math_bits_deBruijn32tab), ("math/bits.deBruijn64tab", laid_math_bits_deBruijn64tab), ("internal/strconv.uint64pow10", laid_internal_strconv_uint64pow10), ("strconv.ErrRange", laid_strconv_ErrRange), ("strconv.ErrSyntax", laid_strconv_ErrSyntax)], narrowed := true }
def QuoteInverseUptoSaid : Prop := quoteInverseUptoRow.holds Tryd.pinned (OpenSpec.upto quoteInverseSpec)

/-- 'cubbyholelaw04.QuoteAnnounced', WHERE WHAT IT READS IS OF BULK AT MOST 1048576: true; the input reads as it did. -/
def quoteAnnouncedUptoRow : OpenClaim := { program := "ytnjmaofoalgagaadoor", sum := "7d43da05a0c4ad3c173b5fbc8a99e175ecbf2ccc205b76fb74ab0206306bcd03", func := "cubbyhole/cubbyholelaw04.QuoteAnnounced", spec := "quoteAnnounced", unfollowed := true, recurses := true, named := ["strconv.ErrSyntax", "strconv.ErrRange", "internal/strconv.uint64pow10", "math/bits.deBruijn32tab", "math/bits.deBruijn64tab"], apart := false, laid := [("math/bits.deBruijn32tab", laid_math_bits_deBruijn32tab), ("math/bits.deBruijn64tab", laid_math_bits_deBruijn64tab), ("internal/strconv.uint64pow10", laid_internal_strconv_uint64pow10), ("strconv.ErrRange", laid_strconv_ErrRange), ("strconv.ErrSyntax", laid_strconv_ErrSyntax)], narrowed := true }
def QuoteAnnouncedUptoSaid : Prop := quoteAnnouncedUptoRow.holds Tryd.pinned (OpenSpec.upto quoteAnnouncedSpec)

/-- 'cubbyholelaw04.QuoteKeeps', WHERE WHAT IT READS IS OF BULK AT MOST 1048576: true; the input reads as it did. -/
def quoteKeepsUptoRow : OpenClaim := { program := "ytnjmaofoalgagaadoor", sum := "7d43da05a0c4ad3c173b5fbc8a99e175ecbf2ccc205b76fb74ab0206306bcd03", func := "cubbyhole/cubbyholelaw04.QuoteKeeps", spec := "quoteKeeps", inPlace := ["internal/bytealg.IndexByte"], unfollowed := true, recurses := true, named := ["strconv.ErrSyntax", "strconv.ErrRange", "internal/strconv.uint64pow10", "math/bits.deBruijn32tab", "math/bits.deBruijn64tab"], apart := false, laid := [("math/bits.deBruijn32tab", laid_math_bits_deBruijn32tab), ("math/bits.deBruijn64tab", laid_math_bits_deBruijn64tab), ("internal/strconv.uint64pow10", laid_internal_strconv_uint64pow10), ("strconv.ErrRange", laid_strconv_ErrRange), ("strconv.ErrSyntax", laid_strconv_ErrSyntax)], narrowed := true }
def QuoteKeepsUptoSaid : Prop := quoteKeepsUptoRow.holds Tryd.pinned (OpenSpec.upto quoteKeepsSpec)

end Rows
end Go.Proofs.YtnjmaofoalgagaaDoor
