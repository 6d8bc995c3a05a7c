/-
  DERIVED. GIVEN WITH THE SEED: THE CARDS: each row of YtajfepogecakbaaDoorRows.lean that lists a variable, with what it lists TIED to the program's text (the seventh form; the later family's looks); each row that meets fmt, with fmt's text TOLD by the authors' own Lean function (tested against real Go, not proved from fmt's source: count such statements apart). THE CARD IS WHAT COUNTS. Prove the row's statement (the work); the ties are given (YtajfepogecakbaaDoorTie.lean); close each card by the builder's one call (the guide's Derived/Test/ToyasCard.lean, 'card_holds'). Laid BY PROGRAM, IN A SANDBOX (cutbox-door.mjs). By AI agents, Wed Nov 11 2026. No macro, syntax, notation, axiom, sorry.
-/
import Derived.Test.YtajfepogecakbaaDoorRows
import GoSem.ClaimSeven
namespace Go.Proofs.YtajfepogecakbaaDoor
namespace Rows

/-- THE TIED CARD OF 'sedgelaw02.BedTexts'. -/
def bedTextsCard : Claim7 := { stood := { row := bedTextsRow, standIns := [], harness := (true, "aee9d50d2e6b7fbfcf16de5d8885f99774602f473a1697b15c0de99a820fba7e"), looks := false }, kinds := [], alts := [], laidByText := true, laidKinds := [.data, .pinned], laidTests := true, laidLooks := .later }
def BedTextsCardSaid : Prop := Claim7.holds Tryd.pinned (.plain (OpenSpec.ofChange bedTextsSpec)) bedTextsCard

/-- THE TIED CARD OF 'sedgelaw02.BedParses'. -/
def bedParsesCard : Claim7 := { stood := { row := bedParsesRow, standIns := [], harness := (true, "aee9d50d2e6b7fbfcf16de5d8885f99774602f473a1697b15c0de99a820fba7e"), looks := false }, kinds := [], alts := [], laidByText := true, laidKinds := [.data, .pinned], laidTests := true, laidLooks := .later }
def BedParsesCardSaid : Prop := Claim7.holds Tryd.pinned (.plain (OpenSpec.ofChange bedParsesSpec)) bedParsesCard

/-- THE TIED CARD OF 'sedgelaw02.BedCounts'. -/
def bedCountsCard : Claim7 := { stood := { row := bedCountsRow, standIns := [], harness := (true, "aee9d50d2e6b7fbfcf16de5d8885f99774602f473a1697b15c0de99a820fba7e"), looks := false }, kinds := [], alts := [], laidByText := true, laidKinds := [.data, .pinned], laidTests := true, laidLooks := .later }
def BedCountsCardSaid : Prop := Claim7.holds Tryd.pinned (.plain (OpenSpec.ofChange bedCountsSpec)) bedCountsCard

/-- THE TIED CARD OF 'sedgelaw02.BedBeds'. -/
def bedBedsCard : Claim7 := { stood := { row := bedBedsRow, standIns := [], harness := (true, "aee9d50d2e6b7fbfcf16de5d8885f99774602f473a1697b15c0de99a820fba7e"), looks := false }, kinds := [], alts := [], laidByText := true, laidKinds := [.data, .pinned], laidTests := true, laidLooks := .later }
def BedBedsCardSaid : Prop := Claim7.holds Tryd.pinned (.plain (OpenSpec.ofChange bedBedsSpec)) bedBedsCard

/-- THE TIED CARD OF 'sedgelaw02.BedGrows'. -/
def bedGrowsCard : Claim7 := { stood := { row := bedGrowsRow, standIns := [], harness := (true, "aee9d50d2e6b7fbfcf16de5d8885f99774602f473a1697b15c0de99a820fba7e"), looks := false }, kinds := [], alts := [], laidByText := true, laidKinds := [.data, .pinned], laidTests := true, laidLooks := .later }
def BedGrowsCardSaid : Prop := Claim7.holds Tryd.pinned (.plain (OpenSpec.ofChange bedGrowsSpec)) bedGrowsCard

/-- THE TIED CARD OF 'sedgelaw02.BedWays'. -/
def bedWaysCard : Claim7 := { stood := { row := bedWaysRow, standIns := [], harness := (true, "aee9d50d2e6b7fbfcf16de5d8885f99774602f473a1697b15c0de99a820fba7e"), looks := false }, kinds := [], alts := [], laidByText := true, laidKinds := [.data, .pinned], laidTests := true, laidLooks := .later }
def BedWaysCardSaid : Prop := Claim7.holds Tryd.pinned (.plain (OpenSpec.ofChange bedWaysSpec)) bedWaysCard

/-- THE TIED CARD OF 'sedgelaw02.BedIsWay'. -/
def bedIsWayCard : Claim7 := { stood := { row := bedIsWayRow, standIns := [], harness := (true, "aee9d50d2e6b7fbfcf16de5d8885f99774602f473a1697b15c0de99a820fba7e"), looks := false }, kinds := [], alts := [], laidByText := true, laidKinds := [.data, .pinned], laidTests := true, laidLooks := .later }
def BedIsWayCardSaid : Prop := Claim7.holds Tryd.pinned (.plain (OpenSpec.ofChange bedIsWaySpec)) bedIsWayCard

/-- THE TIED CARD OF 'sedgelaw02.BedSums'. -/
def bedSumsCard : Claim7 := { stood := { row := bedSumsRow, standIns := [], harness := (true, "aee9d50d2e6b7fbfcf16de5d8885f99774602f473a1697b15c0de99a820fba7e"), looks := false }, kinds := [], alts := [], laidByText := true, laidKinds := [.data, .pinned], laidTests := true, laidLooks := .later }
def BedSumsCardSaid : Prop := Claim7.holds Tryd.pinned (.plain (OpenSpec.ofChange bedSumsSpec)) bedSumsCard

/-- THE TIED CARD OF 'sedgelaw02.BedTurns'. -/
def bedTurnsCard : Claim7 := { stood := { row := bedTurnsRow, standIns := [], harness := (true, "aee9d50d2e6b7fbfcf16de5d8885f99774602f473a1697b15c0de99a820fba7e"), looks := false }, kinds := [], alts := [], laidByText := true, laidKinds := [.data, .pinned], laidTests := true, laidLooks := .later }
def BedTurnsCardSaid : Prop := Claim7.holds Tryd.pinned (.plain (OpenSpec.ofChange bedTurnsSpec)) bedTurnsCard

/-- THE TIED CARD OF 'sedgelaw02.BedGrowth'. -/
def bedGrowthCard : Claim7 := { stood := { row := bedGrowthRow, standIns := [], harness := (true, "aee9d50d2e6b7fbfcf16de5d8885f99774602f473a1697b15c0de99a820fba7e"), looks := false }, kinds := [], alts := [], laidByText := true, laidKinds := [.data, .pinned], laidTests := true, laidLooks := .later }
def BedGrowthCardSaid : Prop := Claim7.holds Tryd.pinned (.plain (OpenSpec.ofChange bedGrowthSpec)) bedGrowthCard

/-- THE TIED CARD OF 'sedgelaw02.BedSteps'. -/
def bedStepsCard : Claim7 := { stood := { row := bedStepsRow, standIns := [], harness := (true, "aee9d50d2e6b7fbfcf16de5d8885f99774602f473a1697b15c0de99a820fba7e"), looks := false }, kinds := [], alts := [], laidByText := true, laidKinds := [.data, .pinned], laidTests := true, laidLooks := .later }
def BedStepsCardSaid : Prop := Claim7.holds Tryd.pinned (.plain (OpenSpec.ofChange bedStepsSpec)) bedStepsCard

/-- THE TIED CARD OF 'sedgetop.TopWindows'. -/
def topWindowsCard : Claim7 := { stood := { row := topWindowsRow, standIns := [], harness := (true, "aee9d50d2e6b7fbfcf16de5d8885f99774602f473a1697b15c0de99a820fba7e"), looks := false }, kinds := [], alts := [], laidByText := true, laidKinds := [.data, .pinned], laidTests := true, laidLooks := .later }
def TopWindowsCardSaid : Prop := Claim7.holds Tryd.pinned (.plain (OpenSpec.ofChange topWindowsSpec)) topWindowsCard

/-- THE SECOND FORM's CARD OF 'sedgelaw02.BedTexts'. -/
def bedTextsUptoCard : Claim7 := { stood := { row := bedTextsUptoRow, standIns := [], harness := (true, "aee9d50d2e6b7fbfcf16de5d8885f99774602f473a1697b15c0de99a820fba7e"), looks := false }, kinds := [], alts := [], laidByText := true, laidKinds := [.data, .pinned], laidTests := true, laidLooks := .later }
def BedTextsUptoCardSaid : Prop := Claim7.holds Tryd.pinned (.plain (OpenSpec.upto bedTextsSpec)) bedTextsUptoCard

/-- THE SECOND FORM's CARD OF 'sedgelaw02.BedParses'. -/
def bedParsesUptoCard : Claim7 := { stood := { row := bedParsesUptoRow, standIns := [], harness := (true, "aee9d50d2e6b7fbfcf16de5d8885f99774602f473a1697b15c0de99a820fba7e"), looks := false }, kinds := [], alts := [], laidByText := true, laidKinds := [.data, .pinned], laidTests := true, laidLooks := .later }
def BedParsesUptoCardSaid : Prop := Claim7.holds Tryd.pinned (.plain (OpenSpec.upto bedParsesSpec)) bedParsesUptoCard

/-- THE SECOND FORM's CARD OF 'sedgelaw02.BedCounts'. -/
def bedCountsUptoCard : Claim7 := { stood := { row := bedCountsUptoRow, standIns := [], harness := (true, "aee9d50d2e6b7fbfcf16de5d8885f99774602f473a1697b15c0de99a820fba7e"), looks := false }, kinds := [], alts := [], laidByText := true, laidKinds := [.data, .pinned], laidTests := true, laidLooks := .later }
def BedCountsUptoCardSaid : Prop := Claim7.holds Tryd.pinned (.plain (OpenSpec.upto bedCountsSpec)) bedCountsUptoCard

/-- THE SECOND FORM's CARD OF 'sedgelaw02.BedBeds'. -/
def bedBedsUptoCard : Claim7 := { stood := { row := bedBedsUptoRow, standIns := [], harness := (true, "aee9d50d2e6b7fbfcf16de5d8885f99774602f473a1697b15c0de99a820fba7e"), looks := false }, kinds := [], alts := [], laidByText := true, laidKinds := [.data, .pinned], laidTests := true, laidLooks := .later }
def BedBedsUptoCardSaid : Prop := Claim7.holds Tryd.pinned (.plain (OpenSpec.upto bedBedsSpec)) bedBedsUptoCard

/-- THE SECOND FORM's CARD OF 'sedgelaw02.BedGrows'. -/
def bedGrowsUptoCard : Claim7 := { stood := { row := bedGrowsUptoRow, standIns := [], harness := (true, "aee9d50d2e6b7fbfcf16de5d8885f99774602f473a1697b15c0de99a820fba7e"), looks := false }, kinds := [], alts := [], laidByText := true, laidKinds := [.data, .pinned], laidTests := true, laidLooks := .later }
def BedGrowsUptoCardSaid : Prop := Claim7.holds Tryd.pinned (.plain (OpenSpec.upto bedGrowsSpec)) bedGrowsUptoCard

/-- THE SECOND FORM's CARD OF 'sedgelaw02.BedWays'. -/
def bedWaysUptoCard : Claim7 := { stood := { row := bedWaysUptoRow, standIns := [], harness := (true, "aee9d50d2e6b7fbfcf16de5d8885f99774602f473a1697b15c0de99a820fba7e"), looks := false }, kinds := [], alts := [], laidByText := true, laidKinds := [.data, .pinned], laidTests := true, laidLooks := .later }
def BedWaysUptoCardSaid : Prop := Claim7.holds Tryd.pinned (.plain (OpenSpec.upto bedWaysSpec)) bedWaysUptoCard

/-- THE SECOND FORM's CARD OF 'sedgelaw02.BedIsWay'. -/
def bedIsWayUptoCard : Claim7 := { stood := { row := bedIsWayUptoRow, standIns := [], harness := (true, "aee9d50d2e6b7fbfcf16de5d8885f99774602f473a1697b15c0de99a820fba7e"), looks := false }, kinds := [], alts := [], laidByText := true, laidKinds := [.data, .pinned], laidTests := true, laidLooks := .later }
def BedIsWayUptoCardSaid : Prop := Claim7.holds Tryd.pinned (.plain (OpenSpec.upto bedIsWaySpec)) bedIsWayUptoCard

/-- THE SECOND FORM's CARD OF 'sedgelaw02.BedSums'. -/
def bedSumsUptoCard : Claim7 := { stood := { row := bedSumsUptoRow, standIns := [], harness := (true, "aee9d50d2e6b7fbfcf16de5d8885f99774602f473a1697b15c0de99a820fba7e"), looks := false }, kinds := [], alts := [], laidByText := true, laidKinds := [.data, .pinned], laidTests := true, laidLooks := .later }
def BedSumsUptoCardSaid : Prop := Claim7.holds Tryd.pinned (.plain (OpenSpec.upto bedSumsSpec)) bedSumsUptoCard

/-- THE SECOND FORM's CARD OF 'sedgelaw02.BedTurns'. -/
def bedTurnsUptoCard : Claim7 := { stood := { row := bedTurnsUptoRow, standIns := [], harness := (true, "aee9d50d2e6b7fbfcf16de5d8885f99774602f473a1697b15c0de99a820fba7e"), looks := false }, kinds := [], alts := [], laidByText := true, laidKinds := [.data, .pinned], laidTests := true, laidLooks := .later }
def BedTurnsUptoCardSaid : Prop := Claim7.holds Tryd.pinned (.plain (OpenSpec.upto bedTurnsSpec)) bedTurnsUptoCard

/-- THE SECOND FORM's CARD OF 'sedgelaw02.BedGrowth'. -/
def bedGrowthUptoCard : Claim7 := { stood := { row := bedGrowthUptoRow, standIns := [], harness := (true, "aee9d50d2e6b7fbfcf16de5d8885f99774602f473a1697b15c0de99a820fba7e"), looks := false }, kinds := [], alts := [], laidByText := true, laidKinds := [.data, .pinned], laidTests := true, laidLooks := .later }
def BedGrowthUptoCardSaid : Prop := Claim7.holds Tryd.pinned (.plain (OpenSpec.upto bedGrowthSpec)) bedGrowthUptoCard

/-- THE SECOND FORM's CARD OF 'sedgelaw02.BedSteps'. -/
def bedStepsUptoCard : Claim7 := { stood := { row := bedStepsUptoRow, standIns := [], harness := (true, "aee9d50d2e6b7fbfcf16de5d8885f99774602f473a1697b15c0de99a820fba7e"), looks := false }, kinds := [], alts := [], laidByText := true, laidKinds := [.data, .pinned], laidTests := true, laidLooks := .later }
def BedStepsUptoCardSaid : Prop := Claim7.holds Tryd.pinned (.plain (OpenSpec.upto bedStepsSpec)) bedStepsUptoCard

/-- THE SECOND FORM's CARD OF 'sedgetop.TopWindows'. -/
def topWindowsUptoCard : Claim7 := { stood := { row := topWindowsUptoRow, standIns := [], harness := (true, "aee9d50d2e6b7fbfcf16de5d8885f99774602f473a1697b15c0de99a820fba7e"), looks := false }, kinds := [], alts := [], laidByText := true, laidKinds := [.data, .pinned], laidTests := true, laidLooks := .later }
def TopWindowsUptoCardSaid : Prop := Claim7.holds Tryd.pinned (.plain (OpenSpec.upto topWindowsSpec)) topWindowsUptoCard
end Rows
end Go.Proofs.YtajfepogecakbaaDoor
