/-
  No cell of these rows narrows 'for every input' (looked for: loops, veiled, ifaces, maps, wideKeys, modest, calm, conditions, laid).
  DERIVED. THE GIVEN ROWS OF THIS SEAT. 10 by the template 'for every input the law returns true; each argument reads behind the call as it read before'; 0 by the template 'total and deterministic' (their statements: YtbflpidjcflndaaTotals.lean).
  GIVEN WITH THE SEED: the statements are not yours to turn. If you find one false, say at which input.
  Laid BY PROGRAM, IN A SANDBOX (cutbox-rows.mjs): the forced cells as the released guide's own fill.sh prints them over the translation b35ca88dee9dfc38… (all of the seat's roots in one cut). By AI agents, Wed Nov 11 2026. No macro, syntax, notation, axiom, sorry.
-/
import Derived.Test.YtbflpidjcflndaaChecked
import GoSem.Claim
import GoSem.ClaimJoined
import GoSem.ClaimMapViews
import Derived.JoinedTies
import Derived.KernelRfl
namespace Go.Proofs.Ytbflpidjcflndaa
/- THE CELL 'sum', in the pinned program and in every row, IS THE sha256 OF THE DUMP (.gsa) THAT YtbflpidjcflndaaProg.lean LOADS. Nothing in Lean hashes anything: it is a label: what it is worth is what the hold of that sum in a sandbox is worth. -/
noncomputable def Try.pinned : Pinned := { name := "ytbflpidjcflndaa", sum := "b35ca88dee9dfc3865c45eb6cdc28f1a77cbb7b91d29a7c088790e226806114a", checked := Try.checked }
namespace Rows
def none {H : Type} : Left H := { results := [], args := [] }

/-- 'sedgelaw06.WaderLeads': WHATEVER THE INPUT: true; the input reads as it did. -/
def waderLeadsSpec : ChangeSpec := { name := "waderLeads", fn := fun _ => fun
  | [d1, d2, d3] => { results := [.lit (.bool true)], args := [d1, d2, d3] }
  | _ => none }
def waderLeadsRow : OpenClaim := { program := "ytbflpidjcflndaa", sum := "b35ca88dee9dfc3865c45eb6cdc28f1a77cbb7b91d29a7c088790e226806114a", func := "sedge/sedgelaw06.WaderLeads", spec := "waderLeads", unfollowed := true, recurses := true, apart := false }
def WaderLeadsSaid : Prop := waderLeadsRow.holds Try.pinned (OpenSpec.ofChange waderLeadsSpec)

/-- ITS FALSE NEIGHBOUR: 'it returns false'. Refute it at one input. -/
def waderLeadsWrong : ChangeSpec := { name := "waderLeads", fn := fun _ => fun
  | [d1, d2, d3] => { results := [.lit (.bool false)], args := [d1, d2, d3] }
  | _ => none }
def WaderLeadsWrongFalsely : Prop := waderLeadsRow.holds Try.pinned (OpenSpec.ofChange waderLeadsWrong)

/-- 'sedgelaw06.WaderBirds': WHATEVER THE INPUT: true; the input reads as it did. -/
def waderBirdsSpec : ChangeSpec := { name := "waderBirds", fn := fun _ => fun
  | [d1, d2, d3] => { results := [.lit (.bool true)], args := [d1, d2, d3] }
  | _ => none }
def waderBirdsRow : OpenClaim := { program := "ytbflpidjcflndaa", sum := "b35ca88dee9dfc3865c45eb6cdc28f1a77cbb7b91d29a7c088790e226806114a", func := "sedge/sedgelaw06.WaderBirds", spec := "waderBirds", unfollowed := true, recurses := true, apart := false }
def WaderBirdsSaid : Prop := waderBirdsRow.holds Try.pinned (OpenSpec.ofChange waderBirdsSpec)

/-- ITS FALSE NEIGHBOUR: 'it returns false'. Refute it at one input. -/
def waderBirdsWrong : ChangeSpec := { name := "waderBirds", fn := fun _ => fun
  | [d1, d2, d3] => { results := [.lit (.bool false)], args := [d1, d2, d3] }
  | _ => none }
def WaderBirdsWrongFalsely : Prop := waderBirdsRow.holds Try.pinned (OpenSpec.ofChange waderBirdsWrong)

/-- 'sedgelaw06.WaderFewest': WHATEVER THE INPUT: true; the input reads as it did. -/
def waderFewestSpec : ChangeSpec := { name := "waderFewest", fn := fun _ => fun
  | [d1, d2] => { results := [.lit (.bool true)], args := [d1, d2] }
  | _ => none }
def waderFewestRow : OpenClaim := { program := "ytbflpidjcflndaa", sum := "b35ca88dee9dfc3865c45eb6cdc28f1a77cbb7b91d29a7c088790e226806114a", func := "sedge/sedgelaw06.WaderFewest", spec := "waderFewest", unfollowed := true, recurses := true, apart := false }
def WaderFewestSaid : Prop := waderFewestRow.holds Try.pinned (OpenSpec.ofChange waderFewestSpec)

/-- ITS FALSE NEIGHBOUR: 'it returns false'. Refute it at one input. -/
def waderFewestWrong : ChangeSpec := { name := "waderFewest", fn := fun _ => fun
  | [d1, d2] => { results := [.lit (.bool false)], args := [d1, d2] }
  | _ => none }
def WaderFewestWrongFalsely : Prop := waderFewestRow.holds Try.pinned (OpenSpec.ofChange waderFewestWrong)

/-- 'sedgelaw06.WaderApart': WHATEVER THE INPUT: true; the input reads as it did. -/
def waderApartSpec : ChangeSpec := { name := "waderApart", fn := fun _ => fun
  | [d1, d2, d3] => { results := [.lit (.bool true)], args := [d1, d2, d3] }
  | _ => none }
def waderApartRow : OpenClaim := { program := "ytbflpidjcflndaa", sum := "b35ca88dee9dfc3865c45eb6cdc28f1a77cbb7b91d29a7c088790e226806114a", func := "sedge/sedgelaw06.WaderApart", spec := "waderApart", unfollowed := true, recurses := true, apart := false }
def WaderApartSaid : Prop := waderApartRow.holds Try.pinned (OpenSpec.ofChange waderApartSpec)

/-- ITS FALSE NEIGHBOUR: 'it returns false'. Refute it at one input. -/
def waderApartWrong : ChangeSpec := { name := "waderApart", fn := fun _ => fun
  | [d1, d2, d3] => { results := [.lit (.bool false)], args := [d1, d2, d3] }
  | _ => none }
def WaderApartWrongFalsely : Prop := waderApartRow.holds Try.pinned (OpenSpec.ofChange waderApartWrong)

/-- 'sedgelaw06.WaderRounds': WHATEVER THE INPUT: true; the input reads as it did. -/
def waderRoundsSpec : ChangeSpec := { name := "waderRounds", fn := fun _ => fun
  | [d1, d2, d3] => { results := [.lit (.bool true)], args := [d1, d2, d3] }
  | _ => none }
def waderRoundsRow : OpenClaim := { program := "ytbflpidjcflndaa", sum := "b35ca88dee9dfc3865c45eb6cdc28f1a77cbb7b91d29a7c088790e226806114a", func := "sedge/sedgelaw06.WaderRounds", spec := "waderRounds", unfollowed := true, recurses := true, apart := false }
def WaderRoundsSaid : Prop := waderRoundsRow.holds Try.pinned (OpenSpec.ofChange waderRoundsSpec)

/-- ITS FALSE NEIGHBOUR: 'it returns false'. Refute it at one input. -/
def waderRoundsWrong : ChangeSpec := { name := "waderRounds", fn := fun _ => fun
  | [d1, d2, d3] => { results := [.lit (.bool false)], args := [d1, d2, d3] }
  | _ => none }
def WaderRoundsWrongFalsely : Prop := waderRoundsRow.holds Try.pinned (OpenSpec.ofChange waderRoundsWrong)

/-- 'sedgelaw06.WaderMarked': WHATEVER THE INPUT: true; the input reads as it did. -/
def waderMarkedSpec : ChangeSpec := { name := "waderMarked", fn := fun _ => fun
  | [d1, d2, d3] => { results := [.lit (.bool true)], args := [d1, d2, d3] }
  | _ => none }
def waderMarkedRow : OpenClaim := { program := "ytbflpidjcflndaa", sum := "b35ca88dee9dfc3865c45eb6cdc28f1a77cbb7b91d29a7c088790e226806114a", func := "sedge/sedgelaw06.WaderMarked", spec := "waderMarked", unfollowed := true, recurses := true, apart := false }
def WaderMarkedSaid : Prop := waderMarkedRow.holds Try.pinned (OpenSpec.ofChange waderMarkedSpec)

/-- ITS FALSE NEIGHBOUR: 'it returns false'. Refute it at one input. -/
def waderMarkedWrong : ChangeSpec := { name := "waderMarked", fn := fun _ => fun
  | [d1, d2, d3] => { results := [.lit (.bool false)], args := [d1, d2, d3] }
  | _ => none }
def WaderMarkedWrongFalsely : Prop := waderMarkedRow.holds Try.pinned (OpenSpec.ofChange waderMarkedWrong)

/-- 'sedgelaw06.WaderNests': WHATEVER THE INPUT: true; the input reads as it did. -/
def waderNestsSpec : ChangeSpec := { name := "waderNests", fn := fun _ => fun
  | [d1, d2, d3] => { results := [.lit (.bool true)], args := [d1, d2, d3] }
  | _ => none }
def waderNestsRow : OpenClaim := { program := "ytbflpidjcflndaa", sum := "b35ca88dee9dfc3865c45eb6cdc28f1a77cbb7b91d29a7c088790e226806114a", func := "sedge/sedgelaw06.WaderNests", spec := "waderNests", unfollowed := true, recurses := true, apart := false }
def WaderNestsSaid : Prop := waderNestsRow.holds Try.pinned (OpenSpec.ofChange waderNestsSpec)

/-- ITS FALSE NEIGHBOUR: 'it returns false'. Refute it at one input. -/
def waderNestsWrong : ChangeSpec := { name := "waderNests", fn := fun _ => fun
  | [d1, d2, d3] => { results := [.lit (.bool false)], args := [d1, d2, d3] }
  | _ => none }
def WaderNestsWrongFalsely : Prop := waderNestsRow.holds Try.pinned (OpenSpec.ofChange waderNestsWrong)

/-- 'sedgelaw06.WaderMore': WHATEVER THE INPUT: true; the input reads as it did. -/
def waderMoreSpec : ChangeSpec := { name := "waderMore", fn := fun _ => fun
  | [d1, d2, d3] => { results := [.lit (.bool true)], args := [d1, d2, d3] }
  | _ => none }
def waderMoreRow : OpenClaim := { program := "ytbflpidjcflndaa", sum := "b35ca88dee9dfc3865c45eb6cdc28f1a77cbb7b91d29a7c088790e226806114a", func := "sedge/sedgelaw06.WaderMore", spec := "waderMore", unfollowed := true, recurses := true, apart := false }
def WaderMoreSaid : Prop := waderMoreRow.holds Try.pinned (OpenSpec.ofChange waderMoreSpec)

/-- ITS FALSE NEIGHBOUR: 'it returns false'. Refute it at one input. -/
def waderMoreWrong : ChangeSpec := { name := "waderMore", fn := fun _ => fun
  | [d1, d2, d3] => { results := [.lit (.bool false)], args := [d1, d2, d3] }
  | _ => none }
def WaderMoreWrongFalsely : Prop := waderMoreRow.holds Try.pinned (OpenSpec.ofChange waderMoreWrong)

/-- 'sedgelaw06.WaderOpens': WHATEVER THE INPUT: true; the input reads as it did. -/
def waderOpensSpec : ChangeSpec := { name := "waderOpens", fn := fun _ => fun
  | [d1, d2, d3] => { results := [.lit (.bool true)], args := [d1, d2, d3] }
  | _ => none }
def waderOpensRow : OpenClaim := { program := "ytbflpidjcflndaa", sum := "b35ca88dee9dfc3865c45eb6cdc28f1a77cbb7b91d29a7c088790e226806114a", func := "sedge/sedgelaw06.WaderOpens", spec := "waderOpens", unfollowed := true, recurses := true, apart := false }
def WaderOpensSaid : Prop := waderOpensRow.holds Try.pinned (OpenSpec.ofChange waderOpensSpec)

/-- ITS FALSE NEIGHBOUR: 'it returns false'. Refute it at one input. -/
def waderOpensWrong : ChangeSpec := { name := "waderOpens", fn := fun _ => fun
  | [d1, d2, d3] => { results := [.lit (.bool false)], args := [d1, d2, d3] }
  | _ => none }
def WaderOpensWrongFalsely : Prop := waderOpensRow.holds Try.pinned (OpenSpec.ofChange waderOpensWrong)

/-- 'sedgetop.TopBirds': WHATEVER THE INPUT: true; the input reads as it did. -/
def topBirdsSpec : ChangeSpec := { name := "topBirds", fn := fun _ => fun
  | [d1, d2, d3] => { results := [.lit (.bool true)], args := [d1, d2, d3] }
  | _ => none }
def topBirdsRow : OpenClaim := { program := "ytbflpidjcflndaa", sum := "b35ca88dee9dfc3865c45eb6cdc28f1a77cbb7b91d29a7c088790e226806114a", func := "sedge/sedgetop.TopBirds", spec := "topBirds", unfollowed := true, recurses := true, apart := false }
def TopBirdsSaid : Prop := topBirdsRow.holds Try.pinned (OpenSpec.ofChange topBirdsSpec)

/-- ITS FALSE NEIGHBOUR: 'it returns false'. Refute it at one input. -/
def topBirdsWrong : ChangeSpec := { name := "topBirds", fn := fun _ => fun
  | [d1, d2, d3] => { results := [.lit (.bool false)], args := [d1, d2, d3] }
  | _ => none }
def TopBirdsWrongFalsely : Prop := topBirdsRow.holds Try.pinned (OpenSpec.ofChange topBirdsWrong)

/- THE SECOND FORM. 'bulk': how many values and letters a reading holds, each counted each time it is reached (what is shared counts as often as it is met; a slice's spare places count too). A statement '..UptoSaid' is the law's where the arguments, and the package variables that the reading takes, are together of bulk at most 1048576: NARROWER than '..Said'. Prove '..Said' where nothing that the law and all that it calls make is longer than what came in: it says more and counts as full. Else prove '..UptoSaid'. A law counts once. -/
mutual
def uptoBulk {H : Type} : DataW H → Nat
  | .lit (.string bytes) => bytes.length + 1
  | .lit _ => 1
  | .nil => 1
  | .ptr d => uptoBulk d + 1
  | .slice elems spare => uptoBulkAll elems + uptoBulkAll spare + 1
  | .agg parts => uptoBulkAll parts + 1
  | .iface _ d => uptoBulk d + 1
  | .map entries => uptoBulkEntries entries + 1
  | .held _ => 1
def uptoBulkAll {H : Type} : List (DataW H) → Nat
  | [] => 0
  | d :: r => uptoBulk d + uptoBulkAll r
def uptoBulkEntries {H : Type} : List (Lit × DataW H) → Nat
  | [] => 0
  | x :: r => uptoBulkEntry x + uptoBulkEntries r
def uptoBulkEntry {H : Type} : Lit × DataW H → Nat
  | (.string bytes, d) => bytes.length + uptoBulk d + 1
  | (_, d) => uptoBulk d + 1
 end
def uptoSmall : (H : Type) → List (DataW H) → Bool := fun _ ds => decide (uptoBulkAll ds ≤ 1048576)
def OpenSpec.upto (s : _root_.Go.ChangeSpec) : _root_.Go.OpenSpec := { _root_.Go.OpenSpec.ofChange s with cond := some uptoSmall }

/-- 'sedgelaw06.WaderLeads', WHERE WHAT IT READS IS OF BULK AT MOST 1048576: true; the input reads as it did. -/
def waderLeadsUptoRow : OpenClaim := { program := "ytbflpidjcflndaa", sum := "b35ca88dee9dfc3865c45eb6cdc28f1a77cbb7b91d29a7c088790e226806114a", func := "sedge/sedgelaw06.WaderLeads", spec := "waderLeads", unfollowed := true, recurses := true, apart := false, narrowed := true }
def WaderLeadsUptoSaid : Prop := waderLeadsUptoRow.holds Try.pinned (OpenSpec.upto waderLeadsSpec)

/-- 'sedgelaw06.WaderBirds', WHERE WHAT IT READS IS OF BULK AT MOST 1048576: true; the input reads as it did. -/
def waderBirdsUptoRow : OpenClaim := { program := "ytbflpidjcflndaa", sum := "b35ca88dee9dfc3865c45eb6cdc28f1a77cbb7b91d29a7c088790e226806114a", func := "sedge/sedgelaw06.WaderBirds", spec := "waderBirds", unfollowed := true, recurses := true, apart := false, narrowed := true }
def WaderBirdsUptoSaid : Prop := waderBirdsUptoRow.holds Try.pinned (OpenSpec.upto waderBirdsSpec)

/-- 'sedgelaw06.WaderFewest', WHERE WHAT IT READS IS OF BULK AT MOST 1048576: true; the input reads as it did. -/
def waderFewestUptoRow : OpenClaim := { program := "ytbflpidjcflndaa", sum := "b35ca88dee9dfc3865c45eb6cdc28f1a77cbb7b91d29a7c088790e226806114a", func := "sedge/sedgelaw06.WaderFewest", spec := "waderFewest", unfollowed := true, recurses := true, apart := false, narrowed := true }
def WaderFewestUptoSaid : Prop := waderFewestUptoRow.holds Try.pinned (OpenSpec.upto waderFewestSpec)

/-- 'sedgelaw06.WaderApart', WHERE WHAT IT READS IS OF BULK AT MOST 1048576: true; the input reads as it did. -/
def waderApartUptoRow : OpenClaim := { program := "ytbflpidjcflndaa", sum := "b35ca88dee9dfc3865c45eb6cdc28f1a77cbb7b91d29a7c088790e226806114a", func := "sedge/sedgelaw06.WaderApart", spec := "waderApart", unfollowed := true, recurses := true, apart := false, narrowed := true }
def WaderApartUptoSaid : Prop := waderApartUptoRow.holds Try.pinned (OpenSpec.upto waderApartSpec)

/-- 'sedgelaw06.WaderRounds', WHERE WHAT IT READS IS OF BULK AT MOST 1048576: true; the input reads as it did. -/
def waderRoundsUptoRow : OpenClaim := { program := "ytbflpidjcflndaa", sum := "b35ca88dee9dfc3865c45eb6cdc28f1a77cbb7b91d29a7c088790e226806114a", func := "sedge/sedgelaw06.WaderRounds", spec := "waderRounds", unfollowed := true, recurses := true, apart := false, narrowed := true }
def WaderRoundsUptoSaid : Prop := waderRoundsUptoRow.holds Try.pinned (OpenSpec.upto waderRoundsSpec)

/-- 'sedgelaw06.WaderMarked', WHERE WHAT IT READS IS OF BULK AT MOST 1048576: true; the input reads as it did. -/
def waderMarkedUptoRow : OpenClaim := { program := "ytbflpidjcflndaa", sum := "b35ca88dee9dfc3865c45eb6cdc28f1a77cbb7b91d29a7c088790e226806114a", func := "sedge/sedgelaw06.WaderMarked", spec := "waderMarked", unfollowed := true, recurses := true, apart := false, narrowed := true }
def WaderMarkedUptoSaid : Prop := waderMarkedUptoRow.holds Try.pinned (OpenSpec.upto waderMarkedSpec)

/-- 'sedgelaw06.WaderNests', WHERE WHAT IT READS IS OF BULK AT MOST 1048576: true; the input reads as it did. -/
def waderNestsUptoRow : OpenClaim := { program := "ytbflpidjcflndaa", sum := "b35ca88dee9dfc3865c45eb6cdc28f1a77cbb7b91d29a7c088790e226806114a", func := "sedge/sedgelaw06.WaderNests", spec := "waderNests", unfollowed := true, recurses := true, apart := false, narrowed := true }
def WaderNestsUptoSaid : Prop := waderNestsUptoRow.holds Try.pinned (OpenSpec.upto waderNestsSpec)

/-- 'sedgelaw06.WaderMore', WHERE WHAT IT READS IS OF BULK AT MOST 1048576: true; the input reads as it did. -/
def waderMoreUptoRow : OpenClaim := { program := "ytbflpidjcflndaa", sum := "b35ca88dee9dfc3865c45eb6cdc28f1a77cbb7b91d29a7c088790e226806114a", func := "sedge/sedgelaw06.WaderMore", spec := "waderMore", unfollowed := true, recurses := true, apart := false, narrowed := true }
def WaderMoreUptoSaid : Prop := waderMoreUptoRow.holds Try.pinned (OpenSpec.upto waderMoreSpec)

/-- 'sedgelaw06.WaderOpens', WHERE WHAT IT READS IS OF BULK AT MOST 1048576: true; the input reads as it did. -/
def waderOpensUptoRow : OpenClaim := { program := "ytbflpidjcflndaa", sum := "b35ca88dee9dfc3865c45eb6cdc28f1a77cbb7b91d29a7c088790e226806114a", func := "sedge/sedgelaw06.WaderOpens", spec := "waderOpens", unfollowed := true, recurses := true, apart := false, narrowed := true }
def WaderOpensUptoSaid : Prop := waderOpensUptoRow.holds Try.pinned (OpenSpec.upto waderOpensSpec)

/-- 'sedgetop.TopBirds', WHERE WHAT IT READS IS OF BULK AT MOST 1048576: true; the input reads as it did. -/
def topBirdsUptoRow : OpenClaim := { program := "ytbflpidjcflndaa", sum := "b35ca88dee9dfc3865c45eb6cdc28f1a77cbb7b91d29a7c088790e226806114a", func := "sedge/sedgetop.TopBirds", spec := "topBirds", unfollowed := true, recurses := true, apart := false, narrowed := true }
def TopBirdsUptoSaid : Prop := topBirdsUptoRow.holds Try.pinned (OpenSpec.upto topBirdsSpec)

end Rows
end Go.Proofs.Ytbflpidjcflndaa
