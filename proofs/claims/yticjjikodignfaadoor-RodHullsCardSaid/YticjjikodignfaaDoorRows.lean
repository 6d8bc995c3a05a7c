/-
  NARROWER THAN 'FOR EVERY INPUT', by the rows' own cells (each row's printed sentence says how): RodFormats: laid · RodParses: laid · RodBundles: laid · RodMeasures: laid · RodWhere: laid · RodStraight: laid · RodHulls: laid · RodCuts: laid · RodMoves: laid · RodTexts: laid · RodBands: laid · RodHolds: laid · RodParts: laid.
  DERIVED. THE GIVEN ROWS OF THIS SEAT. 13 by the template 'for every input the law returns true; each argument reads behind the call as it read before'; 0 by the template 'total and deterministic' (their statements: YticjjikodignfaaDoorTotals.lean).
  GIVEN WITH THE SEED: the statements are not yours to turn. If you find one false, say at which input.
  Laid BY PROGRAM, IN A SANDBOX (cutbox-rows.mjs): the forced cells as the released guide's own fill.sh prints them over the translation 832581b2fbcf7319… (all of the seat's roots in one cut). By AI agents, Wed Nov 11 2026. No macro, syntax, notation, axiom, sorry.
-/
import Derived.Test.YticjjikodignfaaDoorChecked
import GoSem.PinnedTables
import GoSem.Claim
import GoSem.ClaimJoined
import GoSem.ClaimMapViews
import Derived.JoinedTies
import Derived.KernelRfl
namespace Go.Proofs.YticjjikodignfaaDoor
/- THE CELL 'sum', in the pinned program and in every row, IS THE sha256 OF THE DUMP (.gsa) THAT YticjjikodignfaaDoorProg.lean LOADS. Nothing in Lean hashes anything: it is a label: what it is worth is what the hold of that sum in a sandbox is worth. -/
noncomputable def Tryd.pinned : Pinned := { name := "yticjjikodignfaadoor", sum := "832581b2fbcf73192ad44dfa90cea09724d8ccad49db1a57839e1838899a46ed", checked := Tryd.checked }
namespace Rows
def none {H : Type} : Left H := { results := [], args := [] }

/- WHAT THE LISTED PACKAGE-LEVEL VARIABLES READ AS WHEN THE CALL BEGINS. Each datum BY PROGRAM (the guide's laid-datum.mjs) off the statement by which the dump's own 'gosem.cut.vars' lays the variable. In a bare row this is a premise. The card (YticjjikodignfaaDoorCards.lean) ties it to the program's text. -/
def laid_math_bits_deBruijn32tab {H : Type} : DataW H := .agg [.lit (.int .u8 0), .lit (.int .u8 1), .lit (.int .u8 28), .lit (.int .u8 2), .lit (.int .u8 29), .lit (.int .u8 14), .lit (.int .u8 24), .lit (.int .u8 3), .lit (.int .u8 30), .lit (.int .u8 22), .lit (.int .u8 20), .lit (.int .u8 15), .lit (.int .u8 25), .lit (.int .u8 17), .lit (.int .u8 4), .lit (.int .u8 8), .lit (.int .u8 31), .lit (.int .u8 27), .lit (.int .u8 13), .lit (.int .u8 23), .lit (.int .u8 21), .lit (.int .u8 19), .lit (.int .u8 16), .lit (.int .u8 7), .lit (.int .u8 26), .lit (.int .u8 12), .lit (.int .u8 18), .lit (.int .u8 6), .lit (.int .u8 11), .lit (.int .u8 5), .lit (.int .u8 10), .lit (.int .u8 9)]
def laid_math_bits_deBruijn64tab {H : Type} : DataW H := .agg [.lit (.int .u8 0), .lit (.int .u8 1), .lit (.int .u8 56), .lit (.int .u8 2), .lit (.int .u8 57), .lit (.int .u8 49), .lit (.int .u8 28), .lit (.int .u8 3), .lit (.int .u8 61), .lit (.int .u8 58), .lit (.int .u8 42), .lit (.int .u8 50), .lit (.int .u8 38), .lit (.int .u8 29), .lit (.int .u8 17), .lit (.int .u8 4), .lit (.int .u8 62), .lit (.int .u8 47), .lit (.int .u8 59), .lit (.int .u8 36), .lit (.int .u8 45), .lit (.int .u8 43), .lit (.int .u8 51), .lit (.int .u8 22), .lit (.int .u8 53), .lit (.int .u8 39), .lit (.int .u8 33), .lit (.int .u8 30), .lit (.int .u8 24), .lit (.int .u8 18), .lit (.int .u8 12), .lit (.int .u8 5), .lit (.int .u8 63), .lit (.int .u8 55), .lit (.int .u8 48), .lit (.int .u8 27), .lit (.int .u8 60), .lit (.int .u8 41), .lit (.int .u8 37), .lit (.int .u8 16), .lit (.int .u8 46), .lit (.int .u8 35), .lit (.int .u8 44), .lit (.int .u8 21), .lit (.int .u8 52), .lit (.int .u8 32), .lit (.int .u8 23), .lit (.int .u8 11), .lit (.int .u8 54), .lit (.int .u8 26), .lit (.int .u8 40), .lit (.int .u8 15), .lit (.int .u8 34), .lit (.int .u8 20), .lit (.int .u8 31), .lit (.int .u8 10), .lit (.int .u8 25), .lit (.int .u8 14), .lit (.int .u8 19), .lit (.int .u8 9), .lit (.int .u8 13), .lit (.int .u8 8), .lit (.int .u8 7), .lit (.int .u8 6)]
def laid_internal_strconv_uint64pow10 {H : Type} : DataW H := .agg [.lit (.int .u64 1), .lit (.int .u64 10), .lit (.int .u64 100), .lit (.int .u64 1000), .lit (.int .u64 10000), .lit (.int .u64 100000), .lit (.int .u64 1000000), .lit (.int .u64 10000000), .lit (.int .u64 100000000), .lit (.int .u64 1000000000), .lit (.int .u64 10000000000), .lit (.int .u64 100000000000), .lit (.int .u64 1000000000000), .lit (.int .u64 10000000000000), .lit (.int .u64 100000000000000), .lit (.int .u64 1000000000000000), .lit (.int .u64 10000000000000000), .lit (.int .u64 100000000000000000), .lit (.int .u64 1000000000000000000), .lit (.int .u64 10000000000000000000)]
def laid_sedge_rod_areaUnits {H : Type} : DataW H := .agg [.agg [.lit (.string [97]), .lit (.int .i64 160)], .agg [.lit (.string [114]), .lit (.int .i64 40)], .agg [.lit (.string [112]), .lit (.int .i64 1)]]
def laid_sedge_rod_lengthUnits {H : Type} : DataW H := .agg [.agg [.lit (.string [102]), .lit (.int .i64 1000)], .agg [.lit (.string [99]), .lit (.int .i64 100)], .agg [.lit (.string [108]), .lit (.int .i64 1)]]
def laid_unicode_utf8_acceptRanges {H : Type} : DataW H := .agg [.agg [.lit (.int .u8 128), .lit (.int .u8 191)], .agg [.lit (.int .u8 160), .lit (.int .u8 191)], .agg [.lit (.int .u8 128), .lit (.int .u8 159)], .agg [.lit (.int .u8 144), .lit (.int .u8 191)], .agg [.lit (.int .u8 128), .lit (.int .u8 143)], .agg [.lit (.int .u8 0), .lit (.int .u8 0)], .agg [.lit (.int .u8 0), .lit (.int .u8 0)], .agg [.lit (.int .u8 0), .lit (.int .u8 0)], .agg [.lit (.int .u8 0), .lit (.int .u8 0)], .agg [.lit (.int .u8 0), .lit (.int .u8 0)], .agg [.lit (.int .u8 0), .lit (.int .u8 0)], .agg [.lit (.int .u8 0), .lit (.int .u8 0)], .agg [.lit (.int .u8 0), .lit (.int .u8 0)], .agg [.lit (.int .u8 0), .lit (.int .u8 0)], .agg [.lit (.int .u8 0), .lit (.int .u8 0)], .agg [.lit (.int .u8 0), .lit (.int .u8 0)]]
def laid_strconv_ErrRange {H : Type} : DataW H := .iface "*errors.errorString" (.ptr (.agg [.lit (.string [118, 97, 108, 117, 101, 32, 111, 117, 116, 32, 111, 102, 32, 114, 97, 110, 103, 101])]))
def laid_strconv_ErrSyntax {H : Type} : DataW H := .iface "*errors.errorString" (.ptr (.agg [.lit (.string [105, 110, 118, 97, 108, 105, 100, 32, 115, 121, 110, 116, 97, 120])]))
/-- One of Go's own tables, pinned by name: the form's constant. -/
def laid_unicode_utf8_first : DataW Unit := Go.Pinned.utf8First

/-- 'sedgelaw01.RodFormats': WHATEVER THE INPUT: true; the input reads as it did. -/
def rodFormatsSpec : ChangeSpec := { name := "rodFormats", fn := fun _ => fun
  | [d] => { results := [.lit (.bool true)], args := [d] }
  | _ => none }
def rodFormatsRow : OpenClaim := { program := "yticjjikodignfaadoor", sum := "832581b2fbcf73192ad44dfa90cea09724d8ccad49db1a57839e1838899a46ed", func := "sedge/sedgelaw01.RodFormats", spec := "rodFormats", inPlace := ["internal/abi.NoEscape", "internal/bytealg.MakeNoZero"], recurses := true, named := ["sedge/rod.areaUnits", "internal/strconv.uint64pow10", "math/bits.deBruijn32tab", "math/bits.deBruijn64tab", "sedge/rod.lengthUnits"], apart := false, laid := [("math/bits.deBruijn32tab", laid_math_bits_deBruijn32tab), ("math/bits.deBruijn64tab", laid_math_bits_deBruijn64tab), ("internal/strconv.uint64pow10", laid_internal_strconv_uint64pow10), ("sedge/rod.areaUnits", laid_sedge_rod_areaUnits), ("sedge/rod.lengthUnits", laid_sedge_rod_lengthUnits)] }
def RodFormatsSaid : Prop := rodFormatsRow.holds Tryd.pinned (OpenSpec.ofChange rodFormatsSpec)

/-- ITS FALSE NEIGHBOUR: 'it returns false'. Refute it at one input. -/
def rodFormatsWrong : ChangeSpec := { name := "rodFormats", fn := fun _ => fun
  | [d] => { results := [.lit (.bool false)], args := [d] }
  | _ => none }
def RodFormatsWrongFalsely : Prop := rodFormatsRow.holds Tryd.pinned (OpenSpec.ofChange rodFormatsWrong)

/-- 'sedgelaw01.RodParses': WHATEVER THE INPUT: true; the input reads as it did. -/
def rodParsesSpec : ChangeSpec := { name := "rodParses", fn := fun _ => fun
  | [d] => { results := [.lit (.bool true)], args := [d] }
  | _ => none }
def rodParsesRow : OpenClaim := { program := "yticjjikodignfaadoor", sum := "832581b2fbcf73192ad44dfa90cea09724d8ccad49db1a57839e1838899a46ed", func := "sedge/sedgelaw01.RodParses", spec := "rodParses", inPlace := ["internal/abi.NoEscape", "internal/bytealg.MakeNoZero", "internal/bytealg.IndexByteString", "internal/bytealg.IndexString"], unfollowed := true, recurses := true, named := ["sedge/rod.areaUnits", "internal/strconv.uint64pow10", "math/bits.deBruijn32tab", "math/bits.deBruijn64tab", "unicode/utf8.first", "unicode/utf8.acceptRanges", "internal/bytealg.MaxLen", "strconv.ErrSyntax", "strconv.ErrRange", "sedge/rod.lengthUnits"], apart := false, laid := [("math/bits.deBruijn32tab", laid_math_bits_deBruijn32tab), ("math/bits.deBruijn64tab", laid_math_bits_deBruijn64tab), ("internal/strconv.uint64pow10", laid_internal_strconv_uint64pow10), ("unicode/utf8.acceptRanges", laid_unicode_utf8_acceptRanges), ("strconv.ErrRange", laid_strconv_ErrRange), ("strconv.ErrSyntax", laid_strconv_ErrSyntax), ("sedge/rod.areaUnits", laid_sedge_rod_areaUnits), ("sedge/rod.lengthUnits", laid_sedge_rod_lengthUnits), ("unicode/utf8.first", laid_unicode_utf8_first)] }
def RodParsesSaid : Prop := rodParsesRow.holds Tryd.pinned (OpenSpec.ofChange rodParsesSpec)

/-- ITS FALSE NEIGHBOUR: 'it returns false'. Refute it at one input. -/
def rodParsesWrong : ChangeSpec := { name := "rodParses", fn := fun _ => fun
  | [d] => { results := [.lit (.bool false)], args := [d] }
  | _ => none }
def RodParsesWrongFalsely : Prop := rodParsesRow.holds Tryd.pinned (OpenSpec.ofChange rodParsesWrong)

/-- 'sedgelaw01.RodBundles': WHATEVER THE INPUT: true; the input reads as it did. -/
def rodBundlesSpec : ChangeSpec := { name := "rodBundles", fn := fun _ => fun
  | [d1, d2] => { results := [.lit (.bool true)], args := [d1, d2] }
  | _ => none }
def rodBundlesRow : OpenClaim := { program := "yticjjikodignfaadoor", sum := "832581b2fbcf73192ad44dfa90cea09724d8ccad49db1a57839e1838899a46ed", func := "sedge/sedgelaw01.RodBundles", spec := "rodBundles", inPlace := ["internal/abi.NoEscape", "internal/bytealg.MakeNoZero"], unfollowed := true, recurses := true, named := ["sedge/rod.areaUnits", "internal/strconv.uint64pow10", "math/bits.deBruijn32tab", "math/bits.deBruijn64tab"], apart := false, laid := [("math/bits.deBruijn32tab", laid_math_bits_deBruijn32tab), ("math/bits.deBruijn64tab", laid_math_bits_deBruijn64tab), ("internal/strconv.uint64pow10", laid_internal_strconv_uint64pow10), ("sedge/rod.areaUnits", laid_sedge_rod_areaUnits)] }
def RodBundlesSaid : Prop := rodBundlesRow.holds Tryd.pinned (OpenSpec.ofChange rodBundlesSpec)

/-- ITS FALSE NEIGHBOUR: 'it returns false'. Refute it at one input. -/
def rodBundlesWrong : ChangeSpec := { name := "rodBundles", fn := fun _ => fun
  | [d1, d2] => { results := [.lit (.bool false)], args := [d1, d2] }
  | _ => none }
def RodBundlesWrongFalsely : Prop := rodBundlesRow.holds Tryd.pinned (OpenSpec.ofChange rodBundlesWrong)

/-- 'sedgelaw01.RodMeasures': WHATEVER THE INPUT: true; the input reads as it did. -/
def rodMeasuresSpec : ChangeSpec := { name := "rodMeasures", fn := fun _ => fun
  | [d] => { results := [.lit (.bool true)], args := [d] }
  | _ => none }
def rodMeasuresRow : OpenClaim := { program := "yticjjikodignfaadoor", sum := "832581b2fbcf73192ad44dfa90cea09724d8ccad49db1a57839e1838899a46ed", func := "sedge/sedgelaw01.RodMeasures", spec := "rodMeasures", inPlace := ["internal/abi.NoEscape", "internal/bytealg.MakeNoZero"], named := ["sedge/rod.areaUnits", "internal/strconv.uint64pow10", "math/bits.deBruijn32tab", "math/bits.deBruijn64tab"], apart := false, laid := [("math/bits.deBruijn32tab", laid_math_bits_deBruijn32tab), ("math/bits.deBruijn64tab", laid_math_bits_deBruijn64tab), ("internal/strconv.uint64pow10", laid_internal_strconv_uint64pow10), ("sedge/rod.areaUnits", laid_sedge_rod_areaUnits)] }
def RodMeasuresSaid : Prop := rodMeasuresRow.holds Tryd.pinned (OpenSpec.ofChange rodMeasuresSpec)

/-- ITS FALSE NEIGHBOUR: 'it returns false'. Refute it at one input. -/
def rodMeasuresWrong : ChangeSpec := { name := "rodMeasures", fn := fun _ => fun
  | [d] => { results := [.lit (.bool false)], args := [d] }
  | _ => none }
def RodMeasuresWrongFalsely : Prop := rodMeasuresRow.holds Tryd.pinned (OpenSpec.ofChange rodMeasuresWrong)

/-- 'sedgelaw01.RodWhere': WHATEVER THE INPUT: true; the input reads as it did. -/
def rodWhereSpec : ChangeSpec := { name := "rodWhere", fn := fun _ => fun
  | [d1, d2] => { results := [.lit (.bool true)], args := [d1, d2] }
  | _ => none }
def rodWhereRow : OpenClaim := { program := "yticjjikodignfaadoor", sum := "832581b2fbcf73192ad44dfa90cea09724d8ccad49db1a57839e1838899a46ed", func := "sedge/sedgelaw01.RodWhere", spec := "rodWhere", inPlace := ["internal/abi.NoEscape", "internal/bytealg.MakeNoZero"], named := ["sedge/rod.areaUnits", "internal/strconv.uint64pow10", "math/bits.deBruijn32tab", "math/bits.deBruijn64tab"], apart := false, laid := [("math/bits.deBruijn32tab", laid_math_bits_deBruijn32tab), ("math/bits.deBruijn64tab", laid_math_bits_deBruijn64tab), ("internal/strconv.uint64pow10", laid_internal_strconv_uint64pow10), ("sedge/rod.areaUnits", laid_sedge_rod_areaUnits)] }
def RodWhereSaid : Prop := rodWhereRow.holds Tryd.pinned (OpenSpec.ofChange rodWhereSpec)

/-- ITS FALSE NEIGHBOUR: 'it returns false'. Refute it at one input. -/
def rodWhereWrong : ChangeSpec := { name := "rodWhere", fn := fun _ => fun
  | [d1, d2] => { results := [.lit (.bool false)], args := [d1, d2] }
  | _ => none }
def RodWhereWrongFalsely : Prop := rodWhereRow.holds Tryd.pinned (OpenSpec.ofChange rodWhereWrong)

/-- 'sedgelaw01.RodStraight': WHATEVER THE INPUT: true; the input reads as it did. -/
def rodStraightSpec : ChangeSpec := { name := "rodStraight", fn := fun _ => fun
  | [d] => { results := [.lit (.bool true)], args := [d] }
  | _ => none }
def rodStraightRow : OpenClaim := { program := "yticjjikodignfaadoor", sum := "832581b2fbcf73192ad44dfa90cea09724d8ccad49db1a57839e1838899a46ed", func := "sedge/sedgelaw01.RodStraight", spec := "rodStraight", inPlace := ["internal/abi.NoEscape", "internal/bytealg.MakeNoZero"], named := ["sedge/rod.areaUnits", "internal/strconv.uint64pow10", "math/bits.deBruijn32tab", "math/bits.deBruijn64tab"], apart := false, laid := [("math/bits.deBruijn32tab", laid_math_bits_deBruijn32tab), ("math/bits.deBruijn64tab", laid_math_bits_deBruijn64tab), ("internal/strconv.uint64pow10", laid_internal_strconv_uint64pow10), ("sedge/rod.areaUnits", laid_sedge_rod_areaUnits)] }
def RodStraightSaid : Prop := rodStraightRow.holds Tryd.pinned (OpenSpec.ofChange rodStraightSpec)

/-- ITS FALSE NEIGHBOUR: 'it returns false'. Refute it at one input. -/
def rodStraightWrong : ChangeSpec := { name := "rodStraight", fn := fun _ => fun
  | [d] => { results := [.lit (.bool false)], args := [d] }
  | _ => none }
def RodStraightWrongFalsely : Prop := rodStraightRow.holds Tryd.pinned (OpenSpec.ofChange rodStraightWrong)

/-- 'sedgelaw01.RodHulls': WHATEVER THE INPUT: true; the input reads as it did. -/
def rodHullsSpec : ChangeSpec := { name := "rodHulls", fn := fun _ => fun
  | [d] => { results := [.lit (.bool true)], args := [d] }
  | _ => none }
def rodHullsRow : OpenClaim := { program := "yticjjikodignfaadoor", sum := "832581b2fbcf73192ad44dfa90cea09724d8ccad49db1a57839e1838899a46ed", func := "sedge/sedgelaw01.RodHulls", spec := "rodHulls", inPlace := ["internal/abi.NoEscape", "internal/bytealg.MakeNoZero"], unfollowed := true, recurses := true, named := ["sedge/rod.areaUnits", "internal/strconv.uint64pow10", "math/bits.deBruijn32tab", "math/bits.deBruijn64tab"], apart := false, laid := [("math/bits.deBruijn32tab", laid_math_bits_deBruijn32tab), ("math/bits.deBruijn64tab", laid_math_bits_deBruijn64tab), ("internal/strconv.uint64pow10", laid_internal_strconv_uint64pow10), ("sedge/rod.areaUnits", laid_sedge_rod_areaUnits)] }
def RodHullsSaid : Prop := rodHullsRow.holds Tryd.pinned (OpenSpec.ofChange rodHullsSpec)

/-- ITS FALSE NEIGHBOUR: 'it returns false'. Refute it at one input. -/
def rodHullsWrong : ChangeSpec := { name := "rodHulls", fn := fun _ => fun
  | [d] => { results := [.lit (.bool false)], args := [d] }
  | _ => none }
def RodHullsWrongFalsely : Prop := rodHullsRow.holds Tryd.pinned (OpenSpec.ofChange rodHullsWrong)

/-- 'sedgelaw01.RodCuts': WHATEVER THE INPUT: true; the input reads as it did. -/
def rodCutsSpec : ChangeSpec := { name := "rodCuts", fn := fun _ => fun
  | [d1, d2, d3] => { results := [.lit (.bool true)], args := [d1, d2, d3] }
  | _ => none }
def rodCutsRow : OpenClaim := { program := "yticjjikodignfaadoor", sum := "832581b2fbcf73192ad44dfa90cea09724d8ccad49db1a57839e1838899a46ed", func := "sedge/sedgelaw01.RodCuts", spec := "rodCuts", inPlace := ["internal/abi.NoEscape", "internal/bytealg.MakeNoZero"], named := ["sedge/rod.areaUnits", "internal/strconv.uint64pow10", "math/bits.deBruijn32tab", "math/bits.deBruijn64tab"], apart := false, laid := [("math/bits.deBruijn32tab", laid_math_bits_deBruijn32tab), ("math/bits.deBruijn64tab", laid_math_bits_deBruijn64tab), ("internal/strconv.uint64pow10", laid_internal_strconv_uint64pow10), ("sedge/rod.areaUnits", laid_sedge_rod_areaUnits)] }
def RodCutsSaid : Prop := rodCutsRow.holds Tryd.pinned (OpenSpec.ofChange rodCutsSpec)

/-- ITS FALSE NEIGHBOUR: 'it returns false'. Refute it at one input. -/
def rodCutsWrong : ChangeSpec := { name := "rodCuts", fn := fun _ => fun
  | [d1, d2, d3] => { results := [.lit (.bool false)], args := [d1, d2, d3] }
  | _ => none }
def RodCutsWrongFalsely : Prop := rodCutsRow.holds Tryd.pinned (OpenSpec.ofChange rodCutsWrong)

/-- 'sedgelaw01.RodMoves': WHATEVER THE INPUT: true; the input reads as it did. -/
def rodMovesSpec : ChangeSpec := { name := "rodMoves", fn := fun _ => fun
  | [d1, d2] => { results := [.lit (.bool true)], args := [d1, d2] }
  | _ => none }
def rodMovesRow : OpenClaim := { program := "yticjjikodignfaadoor", sum := "832581b2fbcf73192ad44dfa90cea09724d8ccad49db1a57839e1838899a46ed", func := "sedge/sedgelaw01.RodMoves", spec := "rodMoves", inPlace := ["internal/abi.NoEscape", "internal/bytealg.MakeNoZero"], named := ["sedge/rod.areaUnits", "internal/strconv.uint64pow10", "math/bits.deBruijn32tab", "math/bits.deBruijn64tab"], apart := false, laid := [("math/bits.deBruijn32tab", laid_math_bits_deBruijn32tab), ("math/bits.deBruijn64tab", laid_math_bits_deBruijn64tab), ("internal/strconv.uint64pow10", laid_internal_strconv_uint64pow10), ("sedge/rod.areaUnits", laid_sedge_rod_areaUnits)] }
def RodMovesSaid : Prop := rodMovesRow.holds Tryd.pinned (OpenSpec.ofChange rodMovesSpec)

/-- ITS FALSE NEIGHBOUR: 'it returns false'. Refute it at one input. -/
def rodMovesWrong : ChangeSpec := { name := "rodMoves", fn := fun _ => fun
  | [d1, d2] => { results := [.lit (.bool false)], args := [d1, d2] }
  | _ => none }
def RodMovesWrongFalsely : Prop := rodMovesRow.holds Tryd.pinned (OpenSpec.ofChange rodMovesWrong)

/-- 'sedgelaw01.RodTexts': WHATEVER THE INPUT: true; the input reads as it did. -/
def rodTextsSpec : ChangeSpec := { name := "rodTexts", fn := fun _ => fun
  | [d1, d2] => { results := [.lit (.bool true)], args := [d1, d2] }
  | _ => none }
def rodTextsRow : OpenClaim := { program := "yticjjikodignfaadoor", sum := "832581b2fbcf73192ad44dfa90cea09724d8ccad49db1a57839e1838899a46ed", func := "sedge/sedgelaw01.RodTexts", spec := "rodTexts", inPlace := ["internal/abi.NoEscape", "internal/bytealg.MakeNoZero", "internal/bytealg.IndexByteString", "internal/bytealg.IndexString"], unfollowed := true, recurses := true, named := ["sedge/rod.areaUnits", "internal/strconv.uint64pow10", "math/bits.deBruijn32tab", "math/bits.deBruijn64tab", "sedge/rod.lengthUnits", "unicode/utf8.first", "unicode/utf8.acceptRanges", "internal/bytealg.MaxLen", "strconv.ErrSyntax", "strconv.ErrRange"], apart := false, laid := [("math/bits.deBruijn32tab", laid_math_bits_deBruijn32tab), ("math/bits.deBruijn64tab", laid_math_bits_deBruijn64tab), ("internal/strconv.uint64pow10", laid_internal_strconv_uint64pow10), ("unicode/utf8.acceptRanges", laid_unicode_utf8_acceptRanges), ("strconv.ErrRange", laid_strconv_ErrRange), ("strconv.ErrSyntax", laid_strconv_ErrSyntax), ("sedge/rod.areaUnits", laid_sedge_rod_areaUnits), ("sedge/rod.lengthUnits", laid_sedge_rod_lengthUnits), ("unicode/utf8.first", laid_unicode_utf8_first)] }
def RodTextsSaid : Prop := rodTextsRow.holds Tryd.pinned (OpenSpec.ofChange rodTextsSpec)

/-- ITS FALSE NEIGHBOUR: 'it returns false'. Refute it at one input. -/
def rodTextsWrong : ChangeSpec := { name := "rodTexts", fn := fun _ => fun
  | [d1, d2] => { results := [.lit (.bool false)], args := [d1, d2] }
  | _ => none }
def RodTextsWrongFalsely : Prop := rodTextsRow.holds Tryd.pinned (OpenSpec.ofChange rodTextsWrong)

/-- 'sedgelaw01.RodBands': WHATEVER THE INPUT: true; the input reads as it did. -/
def rodBandsSpec : ChangeSpec := { name := "rodBands", fn := fun _ => fun
  | [d1, d2] => { results := [.lit (.bool true)], args := [d1, d2] }
  | _ => none }
def rodBandsRow : OpenClaim := { program := "yticjjikodignfaadoor", sum := "832581b2fbcf73192ad44dfa90cea09724d8ccad49db1a57839e1838899a46ed", func := "sedge/sedgelaw01.RodBands", spec := "rodBands", inPlace := ["internal/abi.NoEscape", "internal/bytealg.MakeNoZero"], unfollowed := true, recurses := true, named := ["sedge/rod.areaUnits", "internal/strconv.uint64pow10", "math/bits.deBruijn32tab", "math/bits.deBruijn64tab"], apart := false, laid := [("math/bits.deBruijn32tab", laid_math_bits_deBruijn32tab), ("math/bits.deBruijn64tab", laid_math_bits_deBruijn64tab), ("internal/strconv.uint64pow10", laid_internal_strconv_uint64pow10), ("sedge/rod.areaUnits", laid_sedge_rod_areaUnits)] }
def RodBandsSaid : Prop := rodBandsRow.holds Tryd.pinned (OpenSpec.ofChange rodBandsSpec)

/-- ITS FALSE NEIGHBOUR: 'it returns false'. Refute it at one input. -/
def rodBandsWrong : ChangeSpec := { name := "rodBands", fn := fun _ => fun
  | [d1, d2] => { results := [.lit (.bool false)], args := [d1, d2] }
  | _ => none }
def RodBandsWrongFalsely : Prop := rodBandsRow.holds Tryd.pinned (OpenSpec.ofChange rodBandsWrong)

/-- 'sedgelaw01.RodHolds': WHATEVER THE INPUT: true; the input reads as it did. -/
def rodHoldsSpec : ChangeSpec := { name := "rodHolds", fn := fun _ => fun
  | [d] => { results := [.lit (.bool true)], args := [d] }
  | _ => none }
def rodHoldsRow : OpenClaim := { program := "yticjjikodignfaadoor", sum := "832581b2fbcf73192ad44dfa90cea09724d8ccad49db1a57839e1838899a46ed", func := "sedge/sedgelaw01.RodHolds", spec := "rodHolds", inPlace := ["internal/abi.NoEscape", "internal/bytealg.MakeNoZero"], unfollowed := true, recurses := true, named := ["sedge/rod.areaUnits", "internal/strconv.uint64pow10", "math/bits.deBruijn32tab", "math/bits.deBruijn64tab"], apart := false, laid := [("math/bits.deBruijn32tab", laid_math_bits_deBruijn32tab), ("math/bits.deBruijn64tab", laid_math_bits_deBruijn64tab), ("internal/strconv.uint64pow10", laid_internal_strconv_uint64pow10), ("sedge/rod.areaUnits", laid_sedge_rod_areaUnits)] }
def RodHoldsSaid : Prop := rodHoldsRow.holds Tryd.pinned (OpenSpec.ofChange rodHoldsSpec)

/-- ITS FALSE NEIGHBOUR: 'it returns false'. Refute it at one input. -/
def rodHoldsWrong : ChangeSpec := { name := "rodHolds", fn := fun _ => fun
  | [d] => { results := [.lit (.bool false)], args := [d] }
  | _ => none }
def RodHoldsWrongFalsely : Prop := rodHoldsRow.holds Tryd.pinned (OpenSpec.ofChange rodHoldsWrong)

/-- 'sedgelaw01.RodParts': WHATEVER THE INPUT: true; the input reads as it did. -/
def rodPartsSpec : ChangeSpec := { name := "rodParts", fn := fun _ => fun
  | [d1, d2] => { results := [.lit (.bool true)], args := [d1, d2] }
  | _ => none }
def rodPartsRow : OpenClaim := { program := "yticjjikodignfaadoor", sum := "832581b2fbcf73192ad44dfa90cea09724d8ccad49db1a57839e1838899a46ed", func := "sedge/sedgelaw01.RodParts", spec := "rodParts", inPlace := ["internal/abi.NoEscape", "internal/bytealg.MakeNoZero"], named := ["sedge/rod.areaUnits", "internal/strconv.uint64pow10", "math/bits.deBruijn32tab", "math/bits.deBruijn64tab"], apart := false, laid := [("math/bits.deBruijn32tab", laid_math_bits_deBruijn32tab), ("math/bits.deBruijn64tab", laid_math_bits_deBruijn64tab), ("internal/strconv.uint64pow10", laid_internal_strconv_uint64pow10), ("sedge/rod.areaUnits", laid_sedge_rod_areaUnits)] }
def RodPartsSaid : Prop := rodPartsRow.holds Tryd.pinned (OpenSpec.ofChange rodPartsSpec)

/-- ITS FALSE NEIGHBOUR: 'it returns false'. Refute it at one input. -/
def rodPartsWrong : ChangeSpec := { name := "rodParts", fn := fun _ => fun
  | [d1, d2] => { results := [.lit (.bool false)], args := [d1, d2] }
  | _ => none }
def RodPartsWrongFalsely : Prop := rodPartsRow.holds Tryd.pinned (OpenSpec.ofChange rodPartsWrong)

/- THE SECOND FORM. 'bulk': how many values and letters a reading holds, each counted each time it is reached (what is shared counts as often as it is met; a slice's spare places count too). A statement '..UptoSaid' is the law's where the arguments, and the package variables that the reading takes, are together of bulk at most 1048576: NARROWER than '..Said'. Prove '..Said' where nothing that the law and all that it calls make is longer than what came in: it says more and counts as full. Else prove '..UptoSaid'. A law counts once. -/
mutual
def uptoBulk {H : Type} : DataW H → Nat
  | .lit (.string bytes) => bytes.length + 1
  | .lit _ => 1
  | .nil => 1
  | .ptr d => uptoBulk d + 1
  | .slice elems spare => uptoBulkAll elems + uptoBulkAll spare + 1
  | .agg parts => uptoBulkAll parts + 1
  | .iface _ d => uptoBulk d + 1
  | .map entries => uptoBulkEntries entries + 1
  | .held _ => 1
def uptoBulkAll {H : Type} : List (DataW H) → Nat
  | [] => 0
  | d :: r => uptoBulk d + uptoBulkAll r
def uptoBulkEntries {H : Type} : List (Lit × DataW H) → Nat
  | [] => 0
  | x :: r => uptoBulkEntry x + uptoBulkEntries r
def uptoBulkEntry {H : Type} : Lit × DataW H → Nat
  | (.string bytes, d) => bytes.length + uptoBulk d + 1
  | (_, d) => uptoBulk d + 1
 end
def uptoSmall : (H : Type) → List (DataW H) → Bool := fun _ ds => decide (uptoBulkAll ds ≤ 1048576)
def OpenSpec.upto (s : _root_.Go.ChangeSpec) : _root_.Go.OpenSpec := { _root_.Go.OpenSpec.ofChange s with cond := some uptoSmall }

/-- 'sedgelaw01.RodFormats', WHERE WHAT IT READS IS OF BULK AT MOST 1048576: true; the input reads as it did. -/
def rodFormatsUptoRow : OpenClaim := { program := "yticjjikodignfaadoor", sum := "832581b2fbcf73192ad44dfa90cea09724d8ccad49db1a57839e1838899a46ed", func := "sedge/sedgelaw01.RodFormats", spec := "rodFormats", inPlace := ["internal/abi.NoEscape", "internal/bytealg.MakeNoZero"], recurses := true, named := ["sedge/rod.areaUnits", "internal/strconv.uint64pow10", "math/bits.deBruijn32tab", "math/bits.deBruijn64tab", "sedge/rod.lengthUnits"], apart := false, laid := [("math/bits.deBruijn32tab", laid_math_bits_deBruijn32tab), ("math/bits.deBruijn64tab", laid_math_bits_deBruijn64tab), ("internal/strconv.uint64pow10", laid_internal_strconv_uint64pow10), ("sedge/rod.areaUnits", laid_sedge_rod_areaUnits), ("sedge/rod.lengthUnits", laid_sedge_rod_lengthUnits)], narrowed := true }
def RodFormatsUptoSaid : Prop := rodFormatsUptoRow.holds Tryd.pinned (OpenSpec.upto rodFormatsSpec)

/-- 'sedgelaw01.RodParses', WHERE WHAT IT READS IS OF BULK AT MOST 1048576: true; the input reads as it did. -/
def rodParsesUptoRow : OpenClaim := { program := "yticjjikodignfaadoor", sum := "832581b2fbcf73192ad44dfa90cea09724d8ccad49db1a57839e1838899a46ed", func := "sedge/sedgelaw01.RodParses", spec := "rodParses", inPlace := ["internal/abi.NoEscape", "internal/bytealg.MakeNoZero", "internal/bytealg.IndexByteString", "internal/bytealg.IndexString"], unfollowed := true, recurses := true, named := ["sedge/rod.areaUnits", "internal/strconv.uint64pow10", "math/bits.deBruijn32tab", "math/bits.deBruijn64tab", "unicode/utf8.first", "unicode/utf8.acceptRanges", "internal/bytealg.MaxLen", "strconv.ErrSyntax", "strconv.ErrRange", "sedge/rod.lengthUnits"], apart := false, laid := [("math/bits.deBruijn32tab", laid_math_bits_deBruijn32tab), ("math/bits.deBruijn64tab", laid_math_bits_deBruijn64tab), ("internal/strconv.uint64pow10", laid_internal_strconv_uint64pow10), ("unicode/utf8.acceptRanges", laid_unicode_utf8_acceptRanges), ("strconv.ErrRange", laid_strconv_ErrRange), ("strconv.ErrSyntax", laid_strconv_ErrSyntax), ("sedge/rod.areaUnits", laid_sedge_rod_areaUnits), ("sedge/rod.lengthUnits", laid_sedge_rod_lengthUnits), ("unicode/utf8.first", laid_unicode_utf8_first)], narrowed := true }
def RodParsesUptoSaid : Prop := rodParsesUptoRow.holds Tryd.pinned (OpenSpec.upto rodParsesSpec)

/-- 'sedgelaw01.RodBundles', WHERE WHAT IT READS IS OF BULK AT MOST 1048576: true; the input reads as it did. -/
def rodBundlesUptoRow : OpenClaim := { program := "yticjjikodignfaadoor", sum := "832581b2fbcf73192ad44dfa90cea09724d8ccad49db1a57839e1838899a46ed", func := "sedge/sedgelaw01.RodBundles", spec := "rodBundles", inPlace := ["internal/abi.NoEscape", "internal/bytealg.MakeNoZero"], unfollowed := true, recurses := true, named := ["sedge/rod.areaUnits", "internal/strconv.uint64pow10", "math/bits.deBruijn32tab", "math/bits.deBruijn64tab"], apart := false, laid := [("math/bits.deBruijn32tab", laid_math_bits_deBruijn32tab), ("math/bits.deBruijn64tab", laid_math_bits_deBruijn64tab), ("internal/strconv.uint64pow10", laid_internal_strconv_uint64pow10), ("sedge/rod.areaUnits", laid_sedge_rod_areaUnits)], narrowed := true }
def RodBundlesUptoSaid : Prop := rodBundlesUptoRow.holds Tryd.pinned (OpenSpec.upto rodBundlesSpec)

/-- 'sedgelaw01.RodMeasures', WHERE WHAT IT READS IS OF BULK AT MOST 1048576: true; the input reads as it did. -/
def rodMeasuresUptoRow : OpenClaim := { program := "yticjjikodignfaadoor", sum := "832581b2fbcf73192ad44dfa90cea09724d8ccad49db1a57839e1838899a46ed", func := "sedge/sedgelaw01.RodMeasures", spec := "rodMeasures", inPlace := ["internal/abi.NoEscape", "internal/bytealg.MakeNoZero"], named := ["sedge/rod.areaUnits", "internal/strconv.uint64pow10", "math/bits.deBruijn32tab", "math/bits.deBruijn64tab"], apart := false, laid := [("math/bits.deBruijn32tab", laid_math_bits_deBruijn32tab), ("math/bits.deBruijn64tab", laid_math_bits_deBruijn64tab), ("internal/strconv.uint64pow10", laid_internal_strconv_uint64pow10), ("sedge/rod.areaUnits", laid_sedge_rod_areaUnits)], narrowed := true }
def RodMeasuresUptoSaid : Prop := rodMeasuresUptoRow.holds Tryd.pinned (OpenSpec.upto rodMeasuresSpec)

/-- 'sedgelaw01.RodWhere', WHERE WHAT IT READS IS OF BULK AT MOST 1048576: true; the input reads as it did. -/
def rodWhereUptoRow : OpenClaim := { program := "yticjjikodignfaadoor", sum := "832581b2fbcf73192ad44dfa90cea09724d8ccad49db1a57839e1838899a46ed", func := "sedge/sedgelaw01.RodWhere", spec := "rodWhere", inPlace := ["internal/abi.NoEscape", "internal/bytealg.MakeNoZero"], named := ["sedge/rod.areaUnits", "internal/strconv.uint64pow10", "math/bits.deBruijn32tab", "math/bits.deBruijn64tab"], apart := false, laid := [("math/bits.deBruijn32tab", laid_math_bits_deBruijn32tab), ("math/bits.deBruijn64tab", laid_math_bits_deBruijn64tab), ("internal/strconv.uint64pow10", laid_internal_strconv_uint64pow10), ("sedge/rod.areaUnits", laid_sedge_rod_areaUnits)], narrowed := true }
def RodWhereUptoSaid : Prop := rodWhereUptoRow.holds Tryd.pinned (OpenSpec.upto rodWhereSpec)

/-- 'sedgelaw01.RodStraight', WHERE WHAT IT READS IS OF BULK AT MOST 1048576: true; the input reads as it did. -/
def rodStraightUptoRow : OpenClaim := { program := "yticjjikodignfaadoor", sum := "832581b2fbcf73192ad44dfa90cea09724d8ccad49db1a57839e1838899a46ed", func := "sedge/sedgelaw01.RodStraight", spec := "rodStraight", inPlace := ["internal/abi.NoEscape", "internal/bytealg.MakeNoZero"], named := ["sedge/rod.areaUnits", "internal/strconv.uint64pow10", "math/bits.deBruijn32tab", "math/bits.deBruijn64tab"], apart := false, laid := [("math/bits.deBruijn32tab", laid_math_bits_deBruijn32tab), ("math/bits.deBruijn64tab", laid_math_bits_deBruijn64tab), ("internal/strconv.uint64pow10", laid_internal_strconv_uint64pow10), ("sedge/rod.areaUnits", laid_sedge_rod_areaUnits)], narrowed := true }
def RodStraightUptoSaid : Prop := rodStraightUptoRow.holds Tryd.pinned (OpenSpec.upto rodStraightSpec)

/-- 'sedgelaw01.RodHulls', WHERE WHAT IT READS IS OF BULK AT MOST 1048576: true; the input reads as it did. -/
def rodHullsUptoRow : OpenClaim := { program := "yticjjikodignfaadoor", sum := "832581b2fbcf73192ad44dfa90cea09724d8ccad49db1a57839e1838899a46ed", func := "sedge/sedgelaw01.RodHulls", spec := "rodHulls", inPlace := ["internal/abi.NoEscape", "internal/bytealg.MakeNoZero"], unfollowed := true, recurses := true, named := ["sedge/rod.areaUnits", "internal/strconv.uint64pow10", "math/bits.deBruijn32tab", "math/bits.deBruijn64tab"], apart := false, laid := [("math/bits.deBruijn32tab", laid_math_bits_deBruijn32tab), ("math/bits.deBruijn64tab", laid_math_bits_deBruijn64tab), ("internal/strconv.uint64pow10", laid_internal_strconv_uint64pow10), ("sedge/rod.areaUnits", laid_sedge_rod_areaUnits)], narrowed := true }
def RodHullsUptoSaid : Prop := rodHullsUptoRow.holds Tryd.pinned (OpenSpec.upto rodHullsSpec)

/-- 'sedgelaw01.RodCuts', WHERE WHAT IT READS IS OF BULK AT MOST 1048576: true; the input reads as it did. -/
def rodCutsUptoRow : OpenClaim := { program := "yticjjikodignfaadoor", sum := "832581b2fbcf73192ad44dfa90cea09724d8ccad49db1a57839e1838899a46ed", func := "sedge/sedgelaw01.RodCuts", spec := "rodCuts", inPlace := ["internal/abi.NoEscape", "internal/bytealg.MakeNoZero"], named := ["sedge/rod.areaUnits", "internal/strconv.uint64pow10", "math/bits.deBruijn32tab", "math/bits.deBruijn64tab"], apart := false, laid := [("math/bits.deBruijn32tab", laid_math_bits_deBruijn32tab), ("math/bits.deBruijn64tab", laid_math_bits_deBruijn64tab), ("internal/strconv.uint64pow10", laid_internal_strconv_uint64pow10), ("sedge/rod.areaUnits", laid_sedge_rod_areaUnits)], narrowed := true }
def RodCutsUptoSaid : Prop := rodCutsUptoRow.holds Tryd.pinned (OpenSpec.upto rodCutsSpec)

/-- 'sedgelaw01.RodMoves', WHERE WHAT IT READS IS OF BULK AT MOST 1048576: true; the input reads as it did. -/
def rodMovesUptoRow : OpenClaim := { program := "yticjjikodignfaadoor", sum := "832581b2fbcf73192ad44dfa90cea09724d8ccad49db1a57839e1838899a46ed", func := "sedge/sedgelaw01.RodMoves", spec := "rodMoves", inPlace := ["internal/abi.NoEscape", "internal/bytealg.MakeNoZero"], named := ["sedge/rod.areaUnits", "internal/strconv.uint64pow10", "math/bits.deBruijn32tab", "math/bits.deBruijn64tab"], apart := false, laid := [("math/bits.deBruijn32tab", laid_math_bits_deBruijn32tab), ("math/bits.deBruijn64tab", laid_math_bits_deBruijn64tab), ("internal/strconv.uint64pow10", laid_internal_strconv_uint64pow10), ("sedge/rod.areaUnits", laid_sedge_rod_areaUnits)], narrowed := true }
def RodMovesUptoSaid : Prop := rodMovesUptoRow.holds Tryd.pinned (OpenSpec.upto rodMovesSpec)

/-- 'sedgelaw01.RodTexts', WHERE WHAT IT READS IS OF BULK AT MOST 1048576: true; the input reads as it did. -/
def rodTextsUptoRow : OpenClaim := { program := "yticjjikodignfaadoor", sum := "832581b2fbcf73192ad44dfa90cea09724d8ccad49db1a57839e1838899a46ed", func := "sedge/sedgelaw01.RodTexts", spec := "rodTexts", inPlace := ["internal/abi.NoEscape", "internal/bytealg.MakeNoZero", "internal/bytealg.IndexByteString", "internal/bytealg.IndexString"], unfollowed := true, recurses := true, named := ["sedge/rod.areaUnits", "internal/strconv.uint64pow10", "math/bits.deBruijn32tab", "math/bits.deBruijn64tab", "sedge/rod.lengthUnits", "unicode/utf8.first", "unicode/utf8.acceptRanges", "internal/bytealg.MaxLen", "strconv.ErrSyntax", "strconv.ErrRange"], apart := false, laid := [("math/bits.deBruijn32tab", laid_math_bits_deBruijn32tab), ("math/bits.deBruijn64tab", laid_math_bits_deBruijn64tab), ("internal/strconv.uint64pow10", laid_internal_strconv_uint64pow10), ("unicode/utf8.acceptRanges", laid_unicode_utf8_acceptRanges), ("strconv.ErrRange", laid_strconv_ErrRange), ("strconv.ErrSyntax", laid_strconv_ErrSyntax), ("sedge/rod.areaUnits", laid_sedge_rod_areaUnits), ("sedge/rod.lengthUnits", laid_sedge_rod_lengthUnits), ("unicode/utf8.first", laid_unicode_utf8_first)], narrowed := true }
def RodTextsUptoSaid : Prop := rodTextsUptoRow.holds Tryd.pinned (OpenSpec.upto rodTextsSpec)

/-- 'sedgelaw01.RodBands', WHERE WHAT IT READS IS OF BULK AT MOST 1048576: true; the input reads as it did. -/
def rodBandsUptoRow : OpenClaim := { program := "yticjjikodignfaadoor", sum := "832581b2fbcf73192ad44dfa90cea09724d8ccad49db1a57839e1838899a46ed", func := "sedge/sedgelaw01.RodBands", spec := "rodBands", inPlace := ["internal/abi.NoEscape", "internal/bytealg.MakeNoZero"], unfollowed := true, recurses := true, named := ["sedge/rod.areaUnits", "internal/strconv.uint64pow10", "math/bits.deBruijn32tab", "math/bits.deBruijn64tab"], apart := false, laid := [("math/bits.deBruijn32tab", laid_math_bits_deBruijn32tab), ("math/bits.deBruijn64tab", laid_math_bits_deBruijn64tab), ("internal/strconv.uint64pow10", laid_internal_strconv_uint64pow10), ("sedge/rod.areaUnits", laid_sedge_rod_areaUnits)], narrowed := true }
def RodBandsUptoSaid : Prop := rodBandsUptoRow.holds Tryd.pinned (OpenSpec.upto rodBandsSpec)

/-- 'sedgelaw01.RodHolds', WHERE WHAT IT READS IS OF BULK AT MOST 1048576: true; the input reads as it did. -/
def rodHoldsUptoRow : OpenClaim := { program := "yticjjikodignfaadoor", sum := "832581b2fbcf73192ad44dfa90cea09724d8ccad49db1a57839e1838899a46ed", func := "sedge/sedgelaw01.RodHolds", spec := "rodHolds", inPlace := ["internal/abi.NoEscape", "internal/bytealg.MakeNoZero"], unfollowed := true, recurses := true, named := ["sedge/rod.areaUnits", "internal/strconv.uint64pow10", "math/bits.deBruijn32tab", "math/bits.deBruijn64tab"], apart := false, laid := [("math/bits.deBruijn32tab", laid_math_bits_deBruijn32tab), ("math/bits.deBruijn64tab", laid_math_bits_deBruijn64tab), ("internal/strconv.uint64pow10", laid_internal_strconv_uint64pow10), ("sedge/rod.areaUnits", laid_sedge_rod_areaUnits)], narrowed := true }
def RodHoldsUptoSaid : Prop := rodHoldsUptoRow.holds Tryd.pinned (OpenSpec.upto rodHoldsSpec)

/-- 'sedgelaw01.RodParts', WHERE WHAT IT READS IS OF BULK AT MOST 1048576: true; the input reads as it did. -/
def rodPartsUptoRow : OpenClaim := { program := "yticjjikodignfaadoor", sum := "832581b2fbcf73192ad44dfa90cea09724d8ccad49db1a57839e1838899a46ed", func := "sedge/sedgelaw01.RodParts", spec := "rodParts", inPlace := ["internal/abi.NoEscape", "internal/bytealg.MakeNoZero"], named := ["sedge/rod.areaUnits", "internal/strconv.uint64pow10", "math/bits.deBruijn32tab", "math/bits.deBruijn64tab"], apart := false, laid := [("math/bits.deBruijn32tab", laid_math_bits_deBruijn32tab), ("math/bits.deBruijn64tab", laid_math_bits_deBruijn64tab), ("internal/strconv.uint64pow10", laid_internal_strconv_uint64pow10), ("sedge/rod.areaUnits", laid_sedge_rod_areaUnits)], narrowed := true }
def RodPartsUptoSaid : Prop := rodPartsUptoRow.holds Tryd.pinned (OpenSpec.upto rodPartsSpec)

end Rows
end Go.Proofs.YticjjikodignfaaDoor
