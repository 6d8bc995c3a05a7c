/-
  DERIVED. GIVEN WITH THE SEED: THE CARDS: each row of YticjjikodignfaaDoorRows.lean that lists a variable, with what it lists TIED to the program's text (the seventh form; the later family's looks); each row that meets fmt, with fmt's text TOLD by the authors' own Lean function (tested against real Go, not proved from fmt's source: count such statements apart). THE CARD IS WHAT COUNTS. Prove the row's statement (the work); the ties are given (YticjjikodignfaaDoorTie.lean); close each card by the builder's one call (the guide's Derived/Test/ToyasCard.lean, 'card_holds'). Laid BY PROGRAM, IN A SANDBOX (cutbox-door.mjs). By AI agents, Wed Nov 11 2026. No macro, syntax, notation, axiom, sorry.
-/
import Derived.Test.YticjjikodignfaaDoorRows
import GoSem.ClaimSeven
namespace Go.Proofs.YticjjikodignfaaDoor
namespace Rows

/-- THE TIED CARD OF 'sedgelaw01.RodFormats'. -/
def rodFormatsCard : Claim7 := { stood := { row := rodFormatsRow, standIns := [], harness := (true, "c03707f2b97acffc2db29feb1cbd085bd000cf06bed66963cdd78095d8ff41bb"), looks := true }, kinds := [], alts := [], laidByText := true, laidKinds := [.data, .data, .data, .data, .data], laidTests := true, laidLooks := .later }
def RodFormatsCardSaid : Prop := Claim7.holds Tryd.pinned (.plain (OpenSpec.ofChange rodFormatsSpec)) rodFormatsCard

/-- THE TIED CARD OF 'sedgelaw01.RodParses'. -/
def rodParsesCard : Claim7 := { stood := { row := rodParsesRow, standIns := [], harness := (true, "c03707f2b97acffc2db29feb1cbd085bd000cf06bed66963cdd78095d8ff41bb"), looks := true }, kinds := [], alts := [], laidByText := true, laidKinds := [.data, .data, .data, .data, .sentinel, .sentinel, .data, .data, .pinned], laidTests := true, laidLooks := .later }
def RodParsesCardSaid : Prop := Claim7.holds Tryd.pinned (.plain (OpenSpec.ofChange rodParsesSpec)) rodParsesCard

/-- THE TIED CARD OF 'sedgelaw01.RodBundles'. -/
def rodBundlesCard : Claim7 := { stood := { row := rodBundlesRow, standIns := [], harness := (true, "c03707f2b97acffc2db29feb1cbd085bd000cf06bed66963cdd78095d8ff41bb"), looks := true }, kinds := [], alts := [], laidByText := true, laidKinds := [.data, .data, .data, .data], laidTests := true, laidLooks := .later }
def RodBundlesCardSaid : Prop := Claim7.holds Tryd.pinned (.plain (OpenSpec.ofChange rodBundlesSpec)) rodBundlesCard

/-- THE TIED CARD OF 'sedgelaw01.RodMeasures'. -/
def rodMeasuresCard : Claim7 := { stood := { row := rodMeasuresRow, standIns := [], harness := (true, "c03707f2b97acffc2db29feb1cbd085bd000cf06bed66963cdd78095d8ff41bb"), looks := true }, kinds := [], alts := [], laidByText := true, laidKinds := [.data, .data, .data, .data], laidTests := true, laidLooks := .later }
def RodMeasuresCardSaid : Prop := Claim7.holds Tryd.pinned (.plain (OpenSpec.ofChange rodMeasuresSpec)) rodMeasuresCard

/-- THE TIED CARD OF 'sedgelaw01.RodWhere'. -/
def rodWhereCard : Claim7 := { stood := { row := rodWhereRow, standIns := [], harness := (true, "c03707f2b97acffc2db29feb1cbd085bd000cf06bed66963cdd78095d8ff41bb"), looks := true }, kinds := [], alts := [], laidByText := true, laidKinds := [.data, .data, .data, .data], laidTests := true, laidLooks := .later }
def RodWhereCardSaid : Prop := Claim7.holds Tryd.pinned (.plain (OpenSpec.ofChange rodWhereSpec)) rodWhereCard

/-- THE TIED CARD OF 'sedgelaw01.RodStraight'. -/
def rodStraightCard : Claim7 := { stood := { row := rodStraightRow, standIns := [], harness := (true, "c03707f2b97acffc2db29feb1cbd085bd000cf06bed66963cdd78095d8ff41bb"), looks := true }, kinds := [], alts := [], laidByText := true, laidKinds := [.data, .data, .data, .data], laidTests := true, laidLooks := .later }
def RodStraightCardSaid : Prop := Claim7.holds Tryd.pinned (.plain (OpenSpec.ofChange rodStraightSpec)) rodStraightCard

/-- THE TIED CARD OF 'sedgelaw01.RodHulls'. -/
def rodHullsCard : Claim7 := { stood := { row := rodHullsRow, standIns := [], harness := (true, "c03707f2b97acffc2db29feb1cbd085bd000cf06bed66963cdd78095d8ff41bb"), looks := true }, kinds := [], alts := [], laidByText := true, laidKinds := [.data, .data, .data, .data], laidTests := true, laidLooks := .later }
def RodHullsCardSaid : Prop := Claim7.holds Tryd.pinned (.plain (OpenSpec.ofChange rodHullsSpec)) rodHullsCard

/-- THE TIED CARD OF 'sedgelaw01.RodCuts'. -/
def rodCutsCard : Claim7 := { stood := { row := rodCutsRow, standIns := [], harness := (true, "c03707f2b97acffc2db29feb1cbd085bd000cf06bed66963cdd78095d8ff41bb"), looks := true }, kinds := [], alts := [], laidByText := true, laidKinds := [.data, .data, .data, .data], laidTests := true, laidLooks := .later }
def RodCutsCardSaid : Prop := Claim7.holds Tryd.pinned (.plain (OpenSpec.ofChange rodCutsSpec)) rodCutsCard

/-- THE TIED CARD OF 'sedgelaw01.RodMoves'. -/
def rodMovesCard : Claim7 := { stood := { row := rodMovesRow, standIns := [], harness := (true, "c03707f2b97acffc2db29feb1cbd085bd000cf06bed66963cdd78095d8ff41bb"), looks := true }, kinds := [], alts := [], laidByText := true, laidKinds := [.data, .data, .data, .data], laidTests := true, laidLooks := .later }
def RodMovesCardSaid : Prop := Claim7.holds Tryd.pinned (.plain (OpenSpec.ofChange rodMovesSpec)) rodMovesCard

/-- THE TIED CARD OF 'sedgelaw01.RodTexts'. -/
def rodTextsCard : Claim7 := { stood := { row := rodTextsRow, standIns := [], harness := (true, "c03707f2b97acffc2db29feb1cbd085bd000cf06bed66963cdd78095d8ff41bb"), looks := true }, kinds := [], alts := [], laidByText := true, laidKinds := [.data, .data, .data, .data, .sentinel, .sentinel, .data, .data, .pinned], laidTests := true, laidLooks := .later }
def RodTextsCardSaid : Prop := Claim7.holds Tryd.pinned (.plain (OpenSpec.ofChange rodTextsSpec)) rodTextsCard

/-- THE TIED CARD OF 'sedgelaw01.RodBands'. -/
def rodBandsCard : Claim7 := { stood := { row := rodBandsRow, standIns := [], harness := (true, "c03707f2b97acffc2db29feb1cbd085bd000cf06bed66963cdd78095d8ff41bb"), looks := true }, kinds := [], alts := [], laidByText := true, laidKinds := [.data, .data, .data, .data], laidTests := true, laidLooks := .later }
def RodBandsCardSaid : Prop := Claim7.holds Tryd.pinned (.plain (OpenSpec.ofChange rodBandsSpec)) rodBandsCard

/-- THE TIED CARD OF 'sedgelaw01.RodHolds'. -/
def rodHoldsCard : Claim7 := { stood := { row := rodHoldsRow, standIns := [], harness := (true, "c03707f2b97acffc2db29feb1cbd085bd000cf06bed66963cdd78095d8ff41bb"), looks := true }, kinds := [], alts := [], laidByText := true, laidKinds := [.data, .data, .data, .data], laidTests := true, laidLooks := .later }
def RodHoldsCardSaid : Prop := Claim7.holds Tryd.pinned (.plain (OpenSpec.ofChange rodHoldsSpec)) rodHoldsCard

/-- THE TIED CARD OF 'sedgelaw01.RodParts'. -/
def rodPartsCard : Claim7 := { stood := { row := rodPartsRow, standIns := [], harness := (true, "c03707f2b97acffc2db29feb1cbd085bd000cf06bed66963cdd78095d8ff41bb"), looks := true }, kinds := [], alts := [], laidByText := true, laidKinds := [.data, .data, .data, .data], laidTests := true, laidLooks := .later }
def RodPartsCardSaid : Prop := Claim7.holds Tryd.pinned (.plain (OpenSpec.ofChange rodPartsSpec)) rodPartsCard

/-- THE SECOND FORM's CARD OF 'sedgelaw01.RodFormats'. -/
def rodFormatsUptoCard : Claim7 := { stood := { row := rodFormatsUptoRow, standIns := [], harness := (true, "c03707f2b97acffc2db29feb1cbd085bd000cf06bed66963cdd78095d8ff41bb"), looks := true }, kinds := [], alts := [], laidByText := true, laidKinds := [.data, .data, .data, .data, .data], laidTests := true, laidLooks := .later }
def RodFormatsUptoCardSaid : Prop := Claim7.holds Tryd.pinned (.plain (OpenSpec.upto rodFormatsSpec)) rodFormatsUptoCard

/-- THE SECOND FORM's CARD OF 'sedgelaw01.RodParses'. -/
def rodParsesUptoCard : Claim7 := { stood := { row := rodParsesUptoRow, standIns := [], harness := (true, "c03707f2b97acffc2db29feb1cbd085bd000cf06bed66963cdd78095d8ff41bb"), looks := true }, kinds := [], alts := [], laidByText := true, laidKinds := [.data, .data, .data, .data, .sentinel, .sentinel, .data, .data, .pinned], laidTests := true, laidLooks := .later }
def RodParsesUptoCardSaid : Prop := Claim7.holds Tryd.pinned (.plain (OpenSpec.upto rodParsesSpec)) rodParsesUptoCard

/-- THE SECOND FORM's CARD OF 'sedgelaw01.RodBundles'. -/
def rodBundlesUptoCard : Claim7 := { stood := { row := rodBundlesUptoRow, standIns := [], harness := (true, "c03707f2b97acffc2db29feb1cbd085bd000cf06bed66963cdd78095d8ff41bb"), looks := true }, kinds := [], alts := [], laidByText := true, laidKinds := [.data, .data, .data, .data], laidTests := true, laidLooks := .later }
def RodBundlesUptoCardSaid : Prop := Claim7.holds Tryd.pinned (.plain (OpenSpec.upto rodBundlesSpec)) rodBundlesUptoCard

/-- THE SECOND FORM's CARD OF 'sedgelaw01.RodMeasures'. -/
def rodMeasuresUptoCard : Claim7 := { stood := { row := rodMeasuresUptoRow, standIns := [], harness := (true, "c03707f2b97acffc2db29feb1cbd085bd000cf06bed66963cdd78095d8ff41bb"), looks := true }, kinds := [], alts := [], laidByText := true, laidKinds := [.data, .data, .data, .data], laidTests := true, laidLooks := .later }
def RodMeasuresUptoCardSaid : Prop := Claim7.holds Tryd.pinned (.plain (OpenSpec.upto rodMeasuresSpec)) rodMeasuresUptoCard

/-- THE SECOND FORM's CARD OF 'sedgelaw01.RodWhere'. -/
def rodWhereUptoCard : Claim7 := { stood := { row := rodWhereUptoRow, standIns := [], harness := (true, "c03707f2b97acffc2db29feb1cbd085bd000cf06bed66963cdd78095d8ff41bb"), looks := true }, kinds := [], alts := [], laidByText := true, laidKinds := [.data, .data, .data, .data], laidTests := true, laidLooks := .later }
def RodWhereUptoCardSaid : Prop := Claim7.holds Tryd.pinned (.plain (OpenSpec.upto rodWhereSpec)) rodWhereUptoCard

/-- THE SECOND FORM's CARD OF 'sedgelaw01.RodStraight'. -/
def rodStraightUptoCard : Claim7 := { stood := { row := rodStraightUptoRow, standIns := [], harness := (true, "c03707f2b97acffc2db29feb1cbd085bd000cf06bed66963cdd78095d8ff41bb"), looks := true }, kinds := [], alts := [], laidByText := true, laidKinds := [.data, .data, .data, .data], laidTests := true, laidLooks := .later }
def RodStraightUptoCardSaid : Prop := Claim7.holds Tryd.pinned (.plain (OpenSpec.upto rodStraightSpec)) rodStraightUptoCard

/-- THE SECOND FORM's CARD OF 'sedgelaw01.RodHulls'. -/
def rodHullsUptoCard : Claim7 := { stood := { row := rodHullsUptoRow, standIns := [], harness := (true, "c03707f2b97acffc2db29feb1cbd085bd000cf06bed66963cdd78095d8ff41bb"), looks := true }, kinds := [], alts := [], laidByText := true, laidKinds := [.data, .data, .data, .data], laidTests := true, laidLooks := .later }
def RodHullsUptoCardSaid : Prop := Claim7.holds Tryd.pinned (.plain (OpenSpec.upto rodHullsSpec)) rodHullsUptoCard

/-- THE SECOND FORM's CARD OF 'sedgelaw01.RodCuts'. -/
def rodCutsUptoCard : Claim7 := { stood := { row := rodCutsUptoRow, standIns := [], harness := (true, "c03707f2b97acffc2db29feb1cbd085bd000cf06bed66963cdd78095d8ff41bb"), looks := true }, kinds := [], alts := [], laidByText := true, laidKinds := [.data, .data, .data, .data], laidTests := true, laidLooks := .later }
def RodCutsUptoCardSaid : Prop := Claim7.holds Tryd.pinned (.plain (OpenSpec.upto rodCutsSpec)) rodCutsUptoCard

/-- THE SECOND FORM's CARD OF 'sedgelaw01.RodMoves'. -/
def rodMovesUptoCard : Claim7 := { stood := { row := rodMovesUptoRow, standIns := [], harness := (true, "c03707f2b97acffc2db29feb1cbd085bd000cf06bed66963cdd78095d8ff41bb"), looks := true }, kinds := [], alts := [], laidByText := true, laidKinds := [.data, .data, .data, .data], laidTests := true, laidLooks := .later }
def RodMovesUptoCardSaid : Prop := Claim7.holds Tryd.pinned (.plain (OpenSpec.upto rodMovesSpec)) rodMovesUptoCard

/-- THE SECOND FORM's CARD OF 'sedgelaw01.RodTexts'. -/
def rodTextsUptoCard : Claim7 := { stood := { row := rodTextsUptoRow, standIns := [], harness := (true, "c03707f2b97acffc2db29feb1cbd085bd000cf06bed66963cdd78095d8ff41bb"), looks := true }, kinds := [], alts := [], laidByText := true, laidKinds := [.data, .data, .data, .data, .sentinel, .sentinel, .data, .data, .pinned], laidTests := true, laidLooks := .later }
def RodTextsUptoCardSaid : Prop := Claim7.holds Tryd.pinned (.plain (OpenSpec.upto rodTextsSpec)) rodTextsUptoCard

/-- THE SECOND FORM's CARD OF 'sedgelaw01.RodBands'. -/
def rodBandsUptoCard : Claim7 := { stood := { row := rodBandsUptoRow, standIns := [], harness := (true, "c03707f2b97acffc2db29feb1cbd085bd000cf06bed66963cdd78095d8ff41bb"), looks := true }, kinds := [], alts := [], laidByText := true, laidKinds := [.data, .data, .data, .data], laidTests := true, laidLooks := .later }
def RodBandsUptoCardSaid : Prop := Claim7.holds Tryd.pinned (.plain (OpenSpec.upto rodBandsSpec)) rodBandsUptoCard

/-- THE SECOND FORM's CARD OF 'sedgelaw01.RodHolds'. -/
def rodHoldsUptoCard : Claim7 := { stood := { row := rodHoldsUptoRow, standIns := [], harness := (true, "c03707f2b97acffc2db29feb1cbd085bd000cf06bed66963cdd78095d8ff41bb"), looks := true }, kinds := [], alts := [], laidByText := true, laidKinds := [.data, .data, .data, .data], laidTests := true, laidLooks := .later }
def RodHoldsUptoCardSaid : Prop := Claim7.holds Tryd.pinned (.plain (OpenSpec.upto rodHoldsSpec)) rodHoldsUptoCard

/-- THE SECOND FORM's CARD OF 'sedgelaw01.RodParts'. -/
def rodPartsUptoCard : Claim7 := { stood := { row := rodPartsUptoRow, standIns := [], harness := (true, "c03707f2b97acffc2db29feb1cbd085bd000cf06bed66963cdd78095d8ff41bb"), looks := true }, kinds := [], alts := [], laidByText := true, laidKinds := [.data, .data, .data, .data], laidTests := true, laidLooks := .later }
def RodPartsUptoCardSaid : Prop := Claim7.holds Tryd.pinned (.plain (OpenSpec.upto rodPartsSpec)) rodPartsUptoCard
end Rows
end Go.Proofs.YticjjikodignfaaDoor
