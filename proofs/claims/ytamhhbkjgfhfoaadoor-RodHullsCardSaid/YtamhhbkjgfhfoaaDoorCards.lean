/-
  DERIVED. GIVEN WITH THE SEED: THE CARDS: each row of YtamhhbkjgfhfoaaDoorRows.lean that lists a variable, with what it lists TIED to the program's text (the seventh form; the later family's looks); each row that meets fmt, with fmt's text TOLD by the authors' own Lean function (tested against real Go, not proved from fmt's source: count such statements apart). THE CARD IS WHAT COUNTS. Prove the row's statement (the work); the ties are given (YtamhhbkjgfhfoaaDoorTie.lean); close each card by the builder's one call (the guide's Derived/Test/ToyasCard.lean, 'card_holds'). Laid BY PROGRAM, IN A SANDBOX (cutbox-door.mjs). By AI agents, Wed Nov 11 2026. No macro, syntax, notation, axiom, sorry.
-/
import Derived.Test.YtamhhbkjgfhfoaaDoorRows
import GoSem.ClaimSeven
namespace Go.Proofs.YtamhhbkjgfhfoaaDoor
namespace Rows

/-- THE TIED CARD OF 'sedgelaw01.RodHulls'. -/
def rodHullsCard : Claim7 := { stood := { row := rodHullsRow, standIns := [], harness := (true, "9cffe0a9784f983776d794e24c8eae5fd2abbdedaec352907bf87afe53fb08ac"), looks := false }, kinds := [], alts := [], laidByText := true, laidKinds := [.data, .data, .data, .data], laidTests := true, laidLooks := .later }
def RodHullsCardSaid : Prop := Claim7.holds Tryd.pinned (.plain (OpenSpec.ofChange rodHullsSpec)) rodHullsCard

/-- THE TIED CARD OF 'sedgelaw01.RodHolds'. -/
def rodHoldsCard : Claim7 := { stood := { row := rodHoldsRow, standIns := [], harness := (true, "9cffe0a9784f983776d794e24c8eae5fd2abbdedaec352907bf87afe53fb08ac"), looks := false }, kinds := [], alts := [], laidByText := true, laidKinds := [.data, .data, .data, .data], laidTests := true, laidLooks := .later }
def RodHoldsCardSaid : Prop := Claim7.holds Tryd.pinned (.plain (OpenSpec.ofChange rodHoldsSpec)) rodHoldsCard

/-- THE SECOND FORM's CARD OF 'sedgelaw01.RodHulls'. -/
def rodHullsUptoCard : Claim7 := { stood := { row := rodHullsUptoRow, standIns := [], harness := (true, "9cffe0a9784f983776d794e24c8eae5fd2abbdedaec352907bf87afe53fb08ac"), looks := false }, kinds := [], alts := [], laidByText := true, laidKinds := [.data, .data, .data, .data], laidTests := true, laidLooks := .later }
def RodHullsUptoCardSaid : Prop := Claim7.holds Tryd.pinned (.plain (OpenSpec.upto rodHullsSpec)) rodHullsUptoCard

/-- THE SECOND FORM's CARD OF 'sedgelaw01.RodHolds'. -/
def rodHoldsUptoCard : Claim7 := { stood := { row := rodHoldsUptoRow, standIns := [], harness := (true, "9cffe0a9784f983776d794e24c8eae5fd2abbdedaec352907bf87afe53fb08ac"), looks := false }, kinds := [], alts := [], laidByText := true, laidKinds := [.data, .data, .data, .data], laidTests := true, laidLooks := .later }
def RodHoldsUptoCardSaid : Prop := Claim7.holds Tryd.pinned (.plain (OpenSpec.upto rodHoldsSpec)) rodHoldsUptoCard
end Rows
end Go.Proofs.YtamhhbkjgfhfoaaDoor
