/-
  NARROWER THAN 'FOR EVERY INPUT', by the rows' own cells (each row's printed sentence says how): BedTexts: laid · BedParses: laid · BedCounts: laid · BedBeds: laid · BedGrows: laid · BedWays: laid · BedIsWay: laid · BedSums: laid · BedTurns: laid · BedGrowth: laid · BedSteps: laid · TopWindows: laid.
  DERIVED. THE GIVEN ROWS OF THIS SEAT. 12 by the template 'for every input the law returns true; each argument reads behind the call as it read before'; 0 by the template 'total and deterministic' (their statements: YtajfepogecakbaaDoorTotals.lean).
  GIVEN WITH THE SEED: the statements are not yours to turn. If you find one false, say at which input.
  Laid BY PROGRAM, IN A SANDBOX (cutbox-rows.mjs): the forced cells as the released guide's own fill.sh prints them over the translation 3d2cbcb43afccbb1… (all of the seat's roots in one cut). By AI agents, Wed Nov 11 2026. No macro, syntax, notation, axiom, sorry.
-/
import Derived.Test.YtajfepogecakbaaDoorChecked
import GoSem.PinnedTables
import GoSem.Claim
import GoSem.ClaimJoined
import GoSem.ClaimMapViews
import Derived.JoinedTies
import Derived.KernelRfl
namespace Go.Proofs.YtajfepogecakbaaDoor
/- THE CELL 'sum', in the pinned program and in every row, IS THE sha256 OF THE DUMP (.gsa) THAT YtajfepogecakbaaDoorProg.lean LOADS. Nothing in Lean hashes anything: it is a label: what it is worth is what the hold of that sum in a sandbox is worth. -/
noncomputable def Tryd.pinned : Pinned := { name := "ytajfepogecakbaadoor", sum := "3d2cbcb43afccbb142845464e5dec29c59f8883367eb41d20b59ccab285128ca", checked := Tryd.checked }
namespace Rows
def none {H : Type} : Left H := { results := [], args := [] }

/- WHAT THE LISTED PACKAGE-LEVEL VARIABLES READ AS WHEN THE CALL BEGINS. Each datum BY PROGRAM (the guide's laid-datum.mjs) off the statement by which the dump's own 'gosem.cut.vars' lays the variable. In a bare row this is a premise. The card (YtajfepogecakbaaDoorCards.lean) ties it to the program's text. -/
def laid_unicode_utf8_acceptRanges {H : Type} : DataW H := .agg [.agg [.lit (.int .u8 128), .lit (.int .u8 191)], .agg [.lit (.int .u8 160), .lit (.int .u8 191)], .agg [.lit (.int .u8 128), .lit (.int .u8 159)], .agg [.lit (.int .u8 144), .lit (.int .u8 191)], .agg [.lit (.int .u8 128), .lit (.int .u8 143)], .agg [.lit (.int .u8 0), .lit (.int .u8 0)], .agg [.lit (.int .u8 0), .lit (.int .u8 0)], .agg [.lit (.int .u8 0), .lit (.int .u8 0)], .agg [.lit (.int .u8 0), .lit (.int .u8 0)], .agg [.lit (.int .u8 0), .lit (.int .u8 0)], .agg [.lit (.int .u8 0), .lit (.int .u8 0)], .agg [.lit (.int .u8 0), .lit (.int .u8 0)], .agg [.lit (.int .u8 0), .lit (.int .u8 0)], .agg [.lit (.int .u8 0), .lit (.int .u8 0)], .agg [.lit (.int .u8 0), .lit (.int .u8 0)], .agg [.lit (.int .u8 0), .lit (.int .u8 0)]]
/-- One of Go's own tables, pinned by name: the form's constant. -/
def laid_unicode_utf8_first : DataW Unit := Go.Pinned.utf8First

/-- 'sedgelaw02.BedTexts': WHATEVER THE INPUT: true; the input reads as it did. -/
def bedTextsSpec : ChangeSpec := { name := "bedTexts", fn := fun _ => fun
  | [d] => { results := [.lit (.bool true)], args := [d] }
  | _ => none }
def bedTextsRow : OpenClaim := { program := "ytajfepogecakbaadoor", sum := "3d2cbcb43afccbb142845464e5dec29c59f8883367eb41d20b59ccab285128ca", func := "sedge/sedgelaw02.BedTexts", spec := "bedTexts", inPlace := ["internal/bytealg.IndexByteString", "internal/bytealg.IndexString", "internal/abi.NoEscape"], unfollowed := true, recurses := true, named := ["unicode/utf8.first", "unicode/utf8.acceptRanges", "internal/bytealg.MaxLen"], apart := false, laid := [("unicode/utf8.acceptRanges", laid_unicode_utf8_acceptRanges), ("unicode/utf8.first", laid_unicode_utf8_first)] }
def BedTextsSaid : Prop := bedTextsRow.holds Tryd.pinned (OpenSpec.ofChange bedTextsSpec)

/-- ITS FALSE NEIGHBOUR: 'it returns false'. Refute it at one input. -/
def bedTextsWrong : ChangeSpec := { name := "bedTexts", fn := fun _ => fun
  | [d] => { results := [.lit (.bool false)], args := [d] }
  | _ => none }
def BedTextsWrongFalsely : Prop := bedTextsRow.holds Tryd.pinned (OpenSpec.ofChange bedTextsWrong)

/-- 'sedgelaw02.BedParses': WHATEVER THE INPUT: true; the input reads as it did. -/
def bedParsesSpec : ChangeSpec := { name := "bedParses", fn := fun _ => fun
  | [d] => { results := [.lit (.bool true)], args := [d] }
  | _ => none }
def bedParsesRow : OpenClaim := { program := "ytajfepogecakbaadoor", sum := "3d2cbcb43afccbb142845464e5dec29c59f8883367eb41d20b59ccab285128ca", func := "sedge/sedgelaw02.BedParses", spec := "bedParses", inPlace := ["internal/bytealg.IndexByteString", "internal/bytealg.IndexString", "internal/abi.NoEscape"], unfollowed := true, recurses := true, named := ["unicode/utf8.first", "unicode/utf8.acceptRanges", "internal/bytealg.MaxLen"], apart := false, laid := [("unicode/utf8.acceptRanges", laid_unicode_utf8_acceptRanges), ("unicode/utf8.first", laid_unicode_utf8_first)] }
def BedParsesSaid : Prop := bedParsesRow.holds Tryd.pinned (OpenSpec.ofChange bedParsesSpec)

/-- ITS FALSE NEIGHBOUR: 'it returns false'. Refute it at one input. -/
def bedParsesWrong : ChangeSpec := { name := "bedParses", fn := fun _ => fun
  | [d] => { results := [.lit (.bool false)], args := [d] }
  | _ => none }
def BedParsesWrongFalsely : Prop := bedParsesRow.holds Tryd.pinned (OpenSpec.ofChange bedParsesWrong)

/-- 'sedgelaw02.BedCounts': WHATEVER THE INPUT: true; the input reads as it did. -/
def bedCountsSpec : ChangeSpec := { name := "bedCounts", fn := fun _ => fun
  | [d1, d2] => { results := [.lit (.bool true)], args := [d1, d2] }
  | _ => none }
def bedCountsRow : OpenClaim := { program := "ytajfepogecakbaadoor", sum := "3d2cbcb43afccbb142845464e5dec29c59f8883367eb41d20b59ccab285128ca", func := "sedge/sedgelaw02.BedCounts", spec := "bedCounts", inPlace := ["internal/bytealg.IndexByteString", "internal/bytealg.IndexString", "internal/abi.NoEscape"], unfollowed := true, recurses := true, named := ["unicode/utf8.first", "unicode/utf8.acceptRanges", "internal/bytealg.MaxLen"], apart := false, laid := [("unicode/utf8.acceptRanges", laid_unicode_utf8_acceptRanges), ("unicode/utf8.first", laid_unicode_utf8_first)] }
def BedCountsSaid : Prop := bedCountsRow.holds Tryd.pinned (OpenSpec.ofChange bedCountsSpec)

/-- ITS FALSE NEIGHBOUR: 'it returns false'. Refute it at one input. -/
def bedCountsWrong : ChangeSpec := { name := "bedCounts", fn := fun _ => fun
  | [d1, d2] => { results := [.lit (.bool false)], args := [d1, d2] }
  | _ => none }
def BedCountsWrongFalsely : Prop := bedCountsRow.holds Tryd.pinned (OpenSpec.ofChange bedCountsWrong)

/-- 'sedgelaw02.BedBeds': WHATEVER THE INPUT: true; the input reads as it did. -/
def bedBedsSpec : ChangeSpec := { name := "bedBeds", fn := fun _ => fun
  | [d] => { results := [.lit (.bool true)], args := [d] }
  | _ => none }
def bedBedsRow : OpenClaim := { program := "ytajfepogecakbaadoor", sum := "3d2cbcb43afccbb142845464e5dec29c59f8883367eb41d20b59ccab285128ca", func := "sedge/sedgelaw02.BedBeds", spec := "bedBeds", inPlace := ["internal/bytealg.IndexByteString", "internal/bytealg.IndexString", "internal/abi.NoEscape"], unfollowed := true, recurses := true, named := ["unicode/utf8.first", "unicode/utf8.acceptRanges", "internal/bytealg.MaxLen"], apart := false, laid := [("unicode/utf8.acceptRanges", laid_unicode_utf8_acceptRanges), ("unicode/utf8.first", laid_unicode_utf8_first)] }
def BedBedsSaid : Prop := bedBedsRow.holds Tryd.pinned (OpenSpec.ofChange bedBedsSpec)

/-- ITS FALSE NEIGHBOUR: 'it returns false'. Refute it at one input. -/
def bedBedsWrong : ChangeSpec := { name := "bedBeds", fn := fun _ => fun
  | [d] => { results := [.lit (.bool false)], args := [d] }
  | _ => none }
def BedBedsWrongFalsely : Prop := bedBedsRow.holds Tryd.pinned (OpenSpec.ofChange bedBedsWrong)

/-- 'sedgelaw02.BedGrows': WHATEVER THE INPUT: true; the input reads as it did. -/
def bedGrowsSpec : ChangeSpec := { name := "bedGrows", fn := fun _ => fun
  | [d] => { results := [.lit (.bool true)], args := [d] }
  | _ => none }
def bedGrowsRow : OpenClaim := { program := "ytajfepogecakbaadoor", sum := "3d2cbcb43afccbb142845464e5dec29c59f8883367eb41d20b59ccab285128ca", func := "sedge/sedgelaw02.BedGrows", spec := "bedGrows", inPlace := ["internal/bytealg.IndexByteString", "internal/bytealg.IndexString", "internal/abi.NoEscape"], unfollowed := true, recurses := true, named := ["unicode/utf8.first", "unicode/utf8.acceptRanges", "internal/bytealg.MaxLen"], apart := false, laid := [("unicode/utf8.acceptRanges", laid_unicode_utf8_acceptRanges), ("unicode/utf8.first", laid_unicode_utf8_first)] }
def BedGrowsSaid : Prop := bedGrowsRow.holds Tryd.pinned (OpenSpec.ofChange bedGrowsSpec)

/-- ITS FALSE NEIGHBOUR: 'it returns false'. Refute it at one input. -/
def bedGrowsWrong : ChangeSpec := { name := "bedGrows", fn := fun _ => fun
  | [d] => { results := [.lit (.bool false)], args := [d] }
  | _ => none }
def BedGrowsWrongFalsely : Prop := bedGrowsRow.holds Tryd.pinned (OpenSpec.ofChange bedGrowsWrong)

/-- 'sedgelaw02.BedWays': WHATEVER THE INPUT: true; the input reads as it did. -/
def bedWaysSpec : ChangeSpec := { name := "bedWays", fn := fun _ => fun
  | [d1, d2, d3] => { results := [.lit (.bool true)], args := [d1, d2, d3] }
  | _ => none }
def bedWaysRow : OpenClaim := { program := "ytajfepogecakbaadoor", sum := "3d2cbcb43afccbb142845464e5dec29c59f8883367eb41d20b59ccab285128ca", func := "sedge/sedgelaw02.BedWays", spec := "bedWays", inPlace := ["internal/bytealg.IndexByteString", "internal/bytealg.IndexString", "internal/abi.NoEscape"], unfollowed := true, recurses := true, named := ["unicode/utf8.first", "unicode/utf8.acceptRanges", "internal/bytealg.MaxLen"], apart := false, laid := [("unicode/utf8.acceptRanges", laid_unicode_utf8_acceptRanges), ("unicode/utf8.first", laid_unicode_utf8_first)] }
def BedWaysSaid : Prop := bedWaysRow.holds Tryd.pinned (OpenSpec.ofChange bedWaysSpec)

/-- ITS FALSE NEIGHBOUR: 'it returns false'. Refute it at one input. -/
def bedWaysWrong : ChangeSpec := { name := "bedWays", fn := fun _ => fun
  | [d1, d2, d3] => { results := [.lit (.bool false)], args := [d1, d2, d3] }
  | _ => none }
def BedWaysWrongFalsely : Prop := bedWaysRow.holds Tryd.pinned (OpenSpec.ofChange bedWaysWrong)

/-- 'sedgelaw02.BedIsWay': WHATEVER THE INPUT: true; the input reads as it did. -/
def bedIsWaySpec : ChangeSpec := { name := "bedIsWay", fn := fun _ => fun
  | [d1, d2] => { results := [.lit (.bool true)], args := [d1, d2] }
  | _ => none }
def bedIsWayRow : OpenClaim := { program := "ytajfepogecakbaadoor", sum := "3d2cbcb43afccbb142845464e5dec29c59f8883367eb41d20b59ccab285128ca", func := "sedge/sedgelaw02.BedIsWay", spec := "bedIsWay", inPlace := ["internal/bytealg.IndexByteString", "internal/bytealg.IndexString", "internal/abi.NoEscape"], unfollowed := true, recurses := true, named := ["unicode/utf8.first", "unicode/utf8.acceptRanges", "internal/bytealg.MaxLen"], apart := false, laid := [("unicode/utf8.acceptRanges", laid_unicode_utf8_acceptRanges), ("unicode/utf8.first", laid_unicode_utf8_first)] }
def BedIsWaySaid : Prop := bedIsWayRow.holds Tryd.pinned (OpenSpec.ofChange bedIsWaySpec)

/-- ITS FALSE NEIGHBOUR: 'it returns false'. Refute it at one input. -/
def bedIsWayWrong : ChangeSpec := { name := "bedIsWay", fn := fun _ => fun
  | [d1, d2] => { results := [.lit (.bool false)], args := [d1, d2] }
  | _ => none }
def BedIsWayWrongFalsely : Prop := bedIsWayRow.holds Tryd.pinned (OpenSpec.ofChange bedIsWayWrong)

/-- 'sedgelaw02.BedSums': WHATEVER THE INPUT: true; the input reads as it did. -/
def bedSumsSpec : ChangeSpec := { name := "bedSums", fn := fun _ => fun
  | [d] => { results := [.lit (.bool true)], args := [d] }
  | _ => none }
def bedSumsRow : OpenClaim := { program := "ytajfepogecakbaadoor", sum := "3d2cbcb43afccbb142845464e5dec29c59f8883367eb41d20b59ccab285128ca", func := "sedge/sedgelaw02.BedSums", spec := "bedSums", inPlace := ["internal/bytealg.IndexByteString", "internal/bytealg.IndexString", "internal/abi.NoEscape"], unfollowed := true, recurses := true, named := ["unicode/utf8.first", "unicode/utf8.acceptRanges", "internal/bytealg.MaxLen"], apart := false, laid := [("unicode/utf8.acceptRanges", laid_unicode_utf8_acceptRanges), ("unicode/utf8.first", laid_unicode_utf8_first)] }
def BedSumsSaid : Prop := bedSumsRow.holds Tryd.pinned (OpenSpec.ofChange bedSumsSpec)

/-- ITS FALSE NEIGHBOUR: 'it returns false'. Refute it at one input. -/
def bedSumsWrong : ChangeSpec := { name := "bedSums", fn := fun _ => fun
  | [d] => { results := [.lit (.bool false)], args := [d] }
  | _ => none }
def BedSumsWrongFalsely : Prop := bedSumsRow.holds Tryd.pinned (OpenSpec.ofChange bedSumsWrong)

/-- 'sedgelaw02.BedTurns': WHATEVER THE INPUT: true; the input reads as it did. -/
def bedTurnsSpec : ChangeSpec := { name := "bedTurns", fn := fun _ => fun
  | [d] => { results := [.lit (.bool true)], args := [d] }
  | _ => none }
def bedTurnsRow : OpenClaim := { program := "ytajfepogecakbaadoor", sum := "3d2cbcb43afccbb142845464e5dec29c59f8883367eb41d20b59ccab285128ca", func := "sedge/sedgelaw02.BedTurns", spec := "bedTurns", inPlace := ["internal/bytealg.IndexByteString", "internal/bytealg.IndexString", "internal/abi.NoEscape"], unfollowed := true, recurses := true, named := ["unicode/utf8.first", "unicode/utf8.acceptRanges", "internal/bytealg.MaxLen"], apart := false, laid := [("unicode/utf8.acceptRanges", laid_unicode_utf8_acceptRanges), ("unicode/utf8.first", laid_unicode_utf8_first)] }
def BedTurnsSaid : Prop := bedTurnsRow.holds Tryd.pinned (OpenSpec.ofChange bedTurnsSpec)

/-- ITS FALSE NEIGHBOUR: 'it returns false'. Refute it at one input. -/
def bedTurnsWrong : ChangeSpec := { name := "bedTurns", fn := fun _ => fun
  | [d] => { results := [.lit (.bool false)], args := [d] }
  | _ => none }
def BedTurnsWrongFalsely : Prop := bedTurnsRow.holds Tryd.pinned (OpenSpec.ofChange bedTurnsWrong)

/-- 'sedgelaw02.BedGrowth': WHATEVER THE INPUT: true; the input reads as it did. -/
def bedGrowthSpec : ChangeSpec := { name := "bedGrowth", fn := fun _ => fun
  | [d] => { results := [.lit (.bool true)], args := [d] }
  | _ => none }
def bedGrowthRow : OpenClaim := { program := "ytajfepogecakbaadoor", sum := "3d2cbcb43afccbb142845464e5dec29c59f8883367eb41d20b59ccab285128ca", func := "sedge/sedgelaw02.BedGrowth", spec := "bedGrowth", inPlace := ["internal/bytealg.IndexByteString", "internal/bytealg.IndexString", "internal/abi.NoEscape"], unfollowed := true, recurses := true, named := ["unicode/utf8.first", "unicode/utf8.acceptRanges", "internal/bytealg.MaxLen"], apart := false, laid := [("unicode/utf8.acceptRanges", laid_unicode_utf8_acceptRanges), ("unicode/utf8.first", laid_unicode_utf8_first)] }
def BedGrowthSaid : Prop := bedGrowthRow.holds Tryd.pinned (OpenSpec.ofChange bedGrowthSpec)

/-- ITS FALSE NEIGHBOUR: 'it returns false'. Refute it at one input. -/
def bedGrowthWrong : ChangeSpec := { name := "bedGrowth", fn := fun _ => fun
  | [d] => { results := [.lit (.bool false)], args := [d] }
  | _ => none }
def BedGrowthWrongFalsely : Prop := bedGrowthRow.holds Tryd.pinned (OpenSpec.ofChange bedGrowthWrong)

/-- 'sedgelaw02.BedSteps': WHATEVER THE INPUT: true; the input reads as it did. -/
def bedStepsSpec : ChangeSpec := { name := "bedSteps", fn := fun _ => fun
  | [d1, d2, d3] => { results := [.lit (.bool true)], args := [d1, d2, d3] }
  | _ => none }
def bedStepsRow : OpenClaim := { program := "ytajfepogecakbaadoor", sum := "3d2cbcb43afccbb142845464e5dec29c59f8883367eb41d20b59ccab285128ca", func := "sedge/sedgelaw02.BedSteps", spec := "bedSteps", inPlace := ["internal/bytealg.IndexByteString", "internal/bytealg.IndexString", "internal/abi.NoEscape"], unfollowed := true, recurses := true, named := ["unicode/utf8.first", "unicode/utf8.acceptRanges", "internal/bytealg.MaxLen"], apart := false, laid := [("unicode/utf8.acceptRanges", laid_unicode_utf8_acceptRanges), ("unicode/utf8.first", laid_unicode_utf8_first)] }
def BedStepsSaid : Prop := bedStepsRow.holds Tryd.pinned (OpenSpec.ofChange bedStepsSpec)

/-- ITS FALSE NEIGHBOUR: 'it returns false'. Refute it at one input. -/
def bedStepsWrong : ChangeSpec := { name := "bedSteps", fn := fun _ => fun
  | [d1, d2, d3] => { results := [.lit (.bool false)], args := [d1, d2, d3] }
  | _ => none }
def BedStepsWrongFalsely : Prop := bedStepsRow.holds Tryd.pinned (OpenSpec.ofChange bedStepsWrong)

/-- 'sedgetop.TopWindows': WHATEVER THE INPUT: true; the input reads as it did. -/
def topWindowsSpec : ChangeSpec := { name := "topWindows", fn := fun _ => fun
  | [d1, d2] => { results := [.lit (.bool true)], args := [d1, d2] }
  | _ => none }
def topWindowsRow : OpenClaim := { program := "ytajfepogecakbaadoor", sum := "3d2cbcb43afccbb142845464e5dec29c59f8883367eb41d20b59ccab285128ca", func := "sedge/sedgetop.TopWindows", spec := "topWindows", inPlace := ["internal/bytealg.IndexByteString", "internal/bytealg.IndexString", "internal/abi.NoEscape"], unfollowed := true, recurses := true, named := ["unicode/utf8.first", "unicode/utf8.acceptRanges", "internal/bytealg.MaxLen"], apart := false, laid := [("unicode/utf8.acceptRanges", laid_unicode_utf8_acceptRanges), ("unicode/utf8.first", laid_unicode_utf8_first)] }
def TopWindowsSaid : Prop := topWindowsRow.holds Tryd.pinned (OpenSpec.ofChange topWindowsSpec)

/-- ITS FALSE NEIGHBOUR: 'it returns false'. Refute it at one input. -/
def topWindowsWrong : ChangeSpec := { name := "topWindows", fn := fun _ => fun
  | [d1, d2] => { results := [.lit (.bool false)], args := [d1, d2] }
  | _ => none }
def TopWindowsWrongFalsely : Prop := topWindowsRow.holds Tryd.pinned (OpenSpec.ofChange topWindowsWrong)

/- THE SECOND FORM. 'bulk': how many values and letters a reading holds, each counted each time it is reached (what is shared counts as often as it is met; a slice's spare places count too). A statement '..UptoSaid' is the law's where the arguments, and the package variables that the reading takes, are together of bulk at most 1048576: NARROWER than '..Said'. Prove '..Said' where nothing that the law and all that it calls make is longer than what came in: it says more and counts as full. Else prove '..UptoSaid'. A law counts once. -/
mutual
def uptoBulk {H : Type} : DataW H → Nat
  | .lit (.string bytes) => bytes.length + 1
  | .lit _ => 1
  | .nil => 1
  | .ptr d => uptoBulk d + 1
  | .slice elems spare => uptoBulkAll elems + uptoBulkAll spare + 1
  | .agg parts => uptoBulkAll parts + 1
  | .iface _ d => uptoBulk d + 1
  | .map entries => uptoBulkEntries entries + 1
  | .held _ => 1
def uptoBulkAll {H : Type} : List (DataW H) → Nat
  | [] => 0
  | d :: r => uptoBulk d + uptoBulkAll r
def uptoBulkEntries {H : Type} : List (Lit × DataW H) → Nat
  | [] => 0
  | x :: r => uptoBulkEntry x + uptoBulkEntries r
def uptoBulkEntry {H : Type} : Lit × DataW H → Nat
  | (.string bytes, d) => bytes.length + uptoBulk d + 1
  | (_, d) => uptoBulk d + 1
 end
def uptoSmall : (H : Type) → List (DataW H) → Bool := fun _ ds => decide (uptoBulkAll ds ≤ 1048576)
def OpenSpec.upto (s : _root_.Go.ChangeSpec) : _root_.Go.OpenSpec := { _root_.Go.OpenSpec.ofChange s with cond := some uptoSmall }

/-- 'sedgelaw02.BedTexts', WHERE WHAT IT READS IS OF BULK AT MOST 1048576: true; the input reads as it did. -/
def bedTextsUptoRow : OpenClaim := { program := "ytajfepogecakbaadoor", sum := "3d2cbcb43afccbb142845464e5dec29c59f8883367eb41d20b59ccab285128ca", func := "sedge/sedgelaw02.BedTexts", spec := "bedTexts", inPlace := ["internal/bytealg.IndexByteString", "internal/bytealg.IndexString", "internal/abi.NoEscape"], unfollowed := true, recurses := true, named := ["unicode/utf8.first", "unicode/utf8.acceptRanges", "internal/bytealg.MaxLen"], apart := false, laid := [("unicode/utf8.acceptRanges", laid_unicode_utf8_acceptRanges), ("unicode/utf8.first", laid_unicode_utf8_first)], narrowed := true }
def BedTextsUptoSaid : Prop := bedTextsUptoRow.holds Tryd.pinned (OpenSpec.upto bedTextsSpec)

/-- 'sedgelaw02.BedParses', WHERE WHAT IT READS IS OF BULK AT MOST 1048576: true; the input reads as it did. -/
def bedParsesUptoRow : OpenClaim := { program := "ytajfepogecakbaadoor", sum := "3d2cbcb43afccbb142845464e5dec29c59f8883367eb41d20b59ccab285128ca", func := "sedge/sedgelaw02.BedParses", spec := "bedParses", inPlace := ["internal/bytealg.IndexByteString", "internal/bytealg.IndexString", "internal/abi.NoEscape"], unfollowed := true, recurses := true, named := ["unicode/utf8.first", "unicode/utf8.acceptRanges", "internal/bytealg.MaxLen"], apart := false, laid := [("unicode/utf8.acceptRanges", laid_unicode_utf8_acceptRanges), ("unicode/utf8.first", laid_unicode_utf8_first)], narrowed := true }
def BedParsesUptoSaid : Prop := bedParsesUptoRow.holds Tryd.pinned (OpenSpec.upto bedParsesSpec)

/-- 'sedgelaw02.BedCounts', WHERE WHAT IT READS IS OF BULK AT MOST 1048576: true; the input reads as it did. -/
def bedCountsUptoRow : OpenClaim := { program := "ytajfepogecakbaadoor", sum := "3d2cbcb43afccbb142845464e5dec29c59f8883367eb41d20b59ccab285128ca", func := "sedge/sedgelaw02.BedCounts", spec := "bedCounts", inPlace := ["internal/bytealg.IndexByteString", "internal/bytealg.IndexString", "internal/abi.NoEscape"], unfollowed := true, recurses := true, named := ["unicode/utf8.first", "unicode/utf8.acceptRanges", "internal/bytealg.MaxLen"], apart := false, laid := [("unicode/utf8.acceptRanges", laid_unicode_utf8_acceptRanges), ("unicode/utf8.first", laid_unicode_utf8_first)], narrowed := true }
def BedCountsUptoSaid : Prop := bedCountsUptoRow.holds Tryd.pinned (OpenSpec.upto bedCountsSpec)

/-- 'sedgelaw02.BedBeds', WHERE WHAT IT READS IS OF BULK AT MOST 1048576: true; the input reads as it did. -/
def bedBedsUptoRow : OpenClaim := { program := "ytajfepogecakbaadoor", sum := "3d2cbcb43afccbb142845464e5dec29c59f8883367eb41d20b59ccab285128ca", func := "sedge/sedgelaw02.BedBeds", spec := "bedBeds", inPlace := ["internal/bytealg.IndexByteString", "internal/bytealg.IndexString", "internal/abi.NoEscape"], unfollowed := true, recurses := true, named := ["unicode/utf8.first", "unicode/utf8.acceptRanges", "internal/bytealg.MaxLen"], apart := false, laid := [("unicode/utf8.acceptRanges", laid_unicode_utf8_acceptRanges), ("unicode/utf8.first", laid_unicode_utf8_first)], narrowed := true }
def BedBedsUptoSaid : Prop := bedBedsUptoRow.holds Tryd.pinned (OpenSpec.upto bedBedsSpec)

/-- 'sedgelaw02.BedGrows', WHERE WHAT IT READS IS OF BULK AT MOST 1048576: true; the input reads as it did. -/
def bedGrowsUptoRow : OpenClaim := { program := "ytajfepogecakbaadoor", sum := "3d2cbcb43afccbb142845464e5dec29c59f8883367eb41d20b59ccab285128ca", func := "sedge/sedgelaw02.BedGrows", spec := "bedGrows", inPlace := ["internal/bytealg.IndexByteString", "internal/bytealg.IndexString", "internal/abi.NoEscape"], unfollowed := true, recurses := true, named := ["unicode/utf8.first", "unicode/utf8.acceptRanges", "internal/bytealg.MaxLen"], apart := false, laid := [("unicode/utf8.acceptRanges", laid_unicode_utf8_acceptRanges), ("unicode/utf8.first", laid_unicode_utf8_first)], narrowed := true }
def BedGrowsUptoSaid : Prop := bedGrowsUptoRow.holds Tryd.pinned (OpenSpec.upto bedGrowsSpec)

/-- 'sedgelaw02.BedWays', WHERE WHAT IT READS IS OF BULK AT MOST 1048576: true; the input reads as it did. -/
def bedWaysUptoRow : OpenClaim := { program := "ytajfepogecakbaadoor", sum := "3d2cbcb43afccbb142845464e5dec29c59f8883367eb41d20b59ccab285128ca", func := "sedge/sedgelaw02.BedWays", spec := "bedWays", inPlace := ["internal/bytealg.IndexByteString", "internal/bytealg.IndexString", "internal/abi.NoEscape"], unfollowed := true, recurses := true, named := ["unicode/utf8.first", "unicode/utf8.acceptRanges", "internal/bytealg.MaxLen"], apart := false, laid := [("unicode/utf8.acceptRanges", laid_unicode_utf8_acceptRanges), ("unicode/utf8.first", laid_unicode_utf8_first)], narrowed := true }
def BedWaysUptoSaid : Prop := bedWaysUptoRow.holds Tryd.pinned (OpenSpec.upto bedWaysSpec)

/-- 'sedgelaw02.BedIsWay', WHERE WHAT IT READS IS OF BULK AT MOST 1048576: true; the input reads as it did. -/
def bedIsWayUptoRow : OpenClaim := { program := "ytajfepogecakbaadoor", sum := "3d2cbcb43afccbb142845464e5dec29c59f8883367eb41d20b59ccab285128ca", func := "sedge/sedgelaw02.BedIsWay", spec := "bedIsWay", inPlace := ["internal/bytealg.IndexByteString", "internal/bytealg.IndexString", "internal/abi.NoEscape"], unfollowed := true, recurses := true, named := ["unicode/utf8.first", "unicode/utf8.acceptRanges", "internal/bytealg.MaxLen"], apart := false, laid := [("unicode/utf8.acceptRanges", laid_unicode_utf8_acceptRanges), ("unicode/utf8.first", laid_unicode_utf8_first)], narrowed := true }
def BedIsWayUptoSaid : Prop := bedIsWayUptoRow.holds Tryd.pinned (OpenSpec.upto bedIsWaySpec)

/-- 'sedgelaw02.BedSums', WHERE WHAT IT READS IS OF BULK AT MOST 1048576: true; the input reads as it did. -/
def bedSumsUptoRow : OpenClaim := { program := "ytajfepogecakbaadoor", sum := "3d2cbcb43afccbb142845464e5dec29c59f8883367eb41d20b59ccab285128ca", func := "sedge/sedgelaw02.BedSums", spec := "bedSums", inPlace := ["internal/bytealg.IndexByteString", "internal/bytealg.IndexString", "internal/abi.NoEscape"], unfollowed := true, recurses := true, named := ["unicode/utf8.first", "unicode/utf8.acceptRanges", "internal/bytealg.MaxLen"], apart := false, laid := [("unicode/utf8.acceptRanges", laid_unicode_utf8_acceptRanges), ("unicode/utf8.first", laid_unicode_utf8_first)], narrowed := true }
def BedSumsUptoSaid : Prop := bedSumsUptoRow.holds Tryd.pinned (OpenSpec.upto bedSumsSpec)

/-- 'sedgelaw02.BedTurns', WHERE WHAT IT READS IS OF BULK AT MOST 1048576: true; the input reads as it did. -/
def bedTurnsUptoRow : OpenClaim := { program := "ytajfepogecakbaadoor", sum := "3d2cbcb43afccbb142845464e5dec29c59f8883367eb41d20b59ccab285128ca", func := "sedge/sedgelaw02.BedTurns", spec := "bedTurns", inPlace := ["internal/bytealg.IndexByteString", "internal/bytealg.IndexString", "internal/abi.NoEscape"], unfollowed := true, recurses := true, named := ["unicode/utf8.first", "unicode/utf8.acceptRanges", "internal/bytealg.MaxLen"], apart := false, laid := [("unicode/utf8.acceptRanges", laid_unicode_utf8_acceptRanges), ("unicode/utf8.first", laid_unicode_utf8_first)], narrowed := true }
def BedTurnsUptoSaid : Prop := bedTurnsUptoRow.holds Tryd.pinned (OpenSpec.upto bedTurnsSpec)

/-- 'sedgelaw02.BedGrowth', WHERE WHAT IT READS IS OF BULK AT MOST 1048576: true; the input reads as it did. -/
def bedGrowthUptoRow : OpenClaim := { program := "ytajfepogecakbaadoor", sum := "3d2cbcb43afccbb142845464e5dec29c59f8883367eb41d20b59ccab285128ca", func := "sedge/sedgelaw02.BedGrowth", spec := "bedGrowth", inPlace := ["internal/bytealg.IndexByteString", "internal/bytealg.IndexString", "internal/abi.NoEscape"], unfollowed := true, recurses := true, named := ["unicode/utf8.first", "unicode/utf8.acceptRanges", "internal/bytealg.MaxLen"], apart := false, laid := [("unicode/utf8.acceptRanges", laid_unicode_utf8_acceptRanges), ("unicode/utf8.first", laid_unicode_utf8_first)], narrowed := true }
def BedGrowthUptoSaid : Prop := bedGrowthUptoRow.holds Tryd.pinned (OpenSpec.upto bedGrowthSpec)

/-- 'sedgelaw02.BedSteps', WHERE WHAT IT READS IS OF BULK AT MOST 1048576: true; the input reads as it did. -/
def bedStepsUptoRow : OpenClaim := { program := "ytajfepogecakbaadoor", sum := "3d2cbcb43afccbb142845464e5dec29c59f8883367eb41d20b59ccab285128ca", func := "sedge/sedgelaw02.BedSteps", spec := "bedSteps", inPlace := ["internal/bytealg.IndexByteString", "internal/bytealg.IndexString", "internal/abi.NoEscape"], unfollowed := true, recurses := true, named := ["unicode/utf8.first", "unicode/utf8.acceptRanges", "internal/bytealg.MaxLen"], apart := false, laid := [("unicode/utf8.acceptRanges", laid_unicode_utf8_acceptRanges), ("unicode/utf8.first", laid_unicode_utf8_first)], narrowed := true }
def BedStepsUptoSaid : Prop := bedStepsUptoRow.holds Tryd.pinned (OpenSpec.upto bedStepsSpec)

/-- 'sedgetop.TopWindows', WHERE WHAT IT READS IS OF BULK AT MOST 1048576: true; the input reads as it did. -/
def topWindowsUptoRow : OpenClaim := { program := "ytajfepogecakbaadoor", sum := "3d2cbcb43afccbb142845464e5dec29c59f8883367eb41d20b59ccab285128ca", func := "sedge/sedgetop.TopWindows", spec := "topWindows", inPlace := ["internal/bytealg.IndexByteString", "internal/bytealg.IndexString", "internal/abi.NoEscape"], unfollowed := true, recurses := true, named := ["unicode/utf8.first", "unicode/utf8.acceptRanges", "internal/bytealg.MaxLen"], apart := false, laid := [("unicode/utf8.acceptRanges", laid_unicode_utf8_acceptRanges), ("unicode/utf8.first", laid_unicode_utf8_first)], narrowed := true }
def TopWindowsUptoSaid : Prop := topWindowsUptoRow.holds Tryd.pinned (OpenSpec.upto topWindowsSpec)

end Rows
end Go.Proofs.YtajfepogecakbaaDoor
