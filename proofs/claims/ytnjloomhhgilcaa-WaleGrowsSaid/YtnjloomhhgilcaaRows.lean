/-
  No cell of these rows narrows 'for every input' (looked for: loops, veiled, ifaces, maps, wideKeys, modest, calm, conditions, laid).
  DERIVED. THE GIVEN ROWS OF THIS SEAT. 4 by the template 'for every input the law returns true; each argument reads behind the call as it read before'; 0 by the template 'total and deterministic' (their statements: YtnjloomhhgilcaaTotals.lean).
  GIVEN WITH THE SEED: the statements are not yours to turn. If you find one false, say at which input.
  Laid BY PROGRAM, IN A SANDBOX (cutbox-rows.mjs): the forced cells as the released guide's own fill.sh prints them over the translation 86213ce999b69ada… (all of the seat's roots in one cut). By AI agents, Wed Nov 11 2026. No macro, syntax, notation, axiom, sorry.
-/
import Derived.Test.YtnjloomhhgilcaaChecked
import GoSem.Claim
import GoSem.ClaimJoined
import GoSem.ClaimMapViews
import Derived.JoinedTies
import Derived.KernelRfl
namespace Go.Proofs.Ytnjloomhhgilcaa
/- THE CELL 'sum', in the pinned program and in every row, IS THE sha256 OF THE DUMP (.gsa) THAT YtnjloomhhgilcaaProg.lean LOADS. Nothing in Lean hashes anything: it is a label: what it is worth is what the hold of that sum in a sandbox is worth. -/
noncomputable def Try.pinned : Pinned := { name := "ytnjloomhhgilcaa", sum := "86213ce999b69adac0a0536e74ad3057d3f4c7dc6043a01fc2e6dcfc87caef16", checked := Try.checked }
namespace Rows
def none {H : Type} : Left H := { results := [], args := [] }

/-- 'sedgelaw05.WaleBests': WHATEVER THE INPUT: true; the input reads as it did. -/
def waleBestsSpec : ChangeSpec := { name := "waleBests", fn := fun _ => fun
  | [d1, d2, d3] => { results := [.lit (.bool true)], args := [d1, d2, d3] }
  | _ => none }
def waleBestsRow : OpenClaim := { program := "ytnjloomhhgilcaa", sum := "86213ce999b69adac0a0536e74ad3057d3f4c7dc6043a01fc2e6dcfc87caef16", func := "sedge/sedgelaw05.WaleBests", spec := "waleBests", unfollowed := true, recurses := true, apart := false }
def WaleBestsSaid : Prop := waleBestsRow.holds Try.pinned (OpenSpec.ofChange waleBestsSpec)

/-- ITS FALSE NEIGHBOUR: 'it returns false'. Refute it at one input. -/
def waleBestsWrong : ChangeSpec := { name := "waleBests", fn := fun _ => fun
  | [d1, d2, d3] => { results := [.lit (.bool false)], args := [d1, d2, d3] }
  | _ => none }
def WaleBestsWrongFalsely : Prop := waleBestsRow.holds Try.pinned (OpenSpec.ofChange waleBestsWrong)

/-- 'sedgelaw05.WaleEnds': WHATEVER THE INPUT: true; the input reads as it did. -/
def waleEndsSpec : ChangeSpec := { name := "waleEnds", fn := fun _ => fun
  | [d] => { results := [.lit (.bool true)], args := [d] }
  | _ => none }
def waleEndsRow : OpenClaim := { program := "ytnjloomhhgilcaa", sum := "86213ce999b69adac0a0536e74ad3057d3f4c7dc6043a01fc2e6dcfc87caef16", func := "sedge/sedgelaw05.WaleEnds", spec := "waleEnds", unfollowed := true, recurses := true, apart := false }
def WaleEndsSaid : Prop := waleEndsRow.holds Try.pinned (OpenSpec.ofChange waleEndsSpec)

/-- ITS FALSE NEIGHBOUR: 'it returns false'. Refute it at one input. -/
def waleEndsWrong : ChangeSpec := { name := "waleEnds", fn := fun _ => fun
  | [d] => { results := [.lit (.bool false)], args := [d] }
  | _ => none }
def WaleEndsWrongFalsely : Prop := waleEndsRow.holds Try.pinned (OpenSpec.ofChange waleEndsWrong)

/-- 'sedgelaw05.WaleGrows': WHATEVER THE INPUT: true; the input reads as it did. -/
def waleGrowsSpec : ChangeSpec := { name := "waleGrows", fn := fun _ => fun
  | [d1, d2, d3] => { results := [.lit (.bool true)], args := [d1, d2, d3] }
  | _ => none }
def waleGrowsRow : OpenClaim := { program := "ytnjloomhhgilcaa", sum := "86213ce999b69adac0a0536e74ad3057d3f4c7dc6043a01fc2e6dcfc87caef16", func := "sedge/sedgelaw05.WaleGrows", spec := "waleGrows", unfollowed := true, recurses := true, apart := false }
def WaleGrowsSaid : Prop := waleGrowsRow.holds Try.pinned (OpenSpec.ofChange waleGrowsSpec)

/-- ITS FALSE NEIGHBOUR: 'it returns false'. Refute it at one input. -/
def waleGrowsWrong : ChangeSpec := { name := "waleGrows", fn := fun _ => fun
  | [d1, d2, d3] => { results := [.lit (.bool false)], args := [d1, d2, d3] }
  | _ => none }
def WaleGrowsWrongFalsely : Prop := waleGrowsRow.holds Try.pinned (OpenSpec.ofChange waleGrowsWrong)

/-- 'sedgetop.TopRotation': WHATEVER THE INPUT: true; the input reads as it did. -/
def topRotationSpec : ChangeSpec := { name := "topRotation", fn := fun _ => fun
  | [d1, d2, d3] => { results := [.lit (.bool true)], args := [d1, d2, d3] }
  | _ => none }
def topRotationRow : OpenClaim := { program := "ytnjloomhhgilcaa", sum := "86213ce999b69adac0a0536e74ad3057d3f4c7dc6043a01fc2e6dcfc87caef16", func := "sedge/sedgetop.TopRotation", spec := "topRotation", unfollowed := true, recurses := true, apart := false }
def TopRotationSaid : Prop := topRotationRow.holds Try.pinned (OpenSpec.ofChange topRotationSpec)

/-- ITS FALSE NEIGHBOUR: 'it returns false'. Refute it at one input. -/
def topRotationWrong : ChangeSpec := { name := "topRotation", fn := fun _ => fun
  | [d1, d2, d3] => { results := [.lit (.bool false)], args := [d1, d2, d3] }
  | _ => none }
def TopRotationWrongFalsely : Prop := topRotationRow.holds Try.pinned (OpenSpec.ofChange topRotationWrong)

/- THE SECOND FORM. 'bulk': how many values and letters a reading holds, each counted each time it is reached (what is shared counts as often as it is met; a slice's spare places count too). A statement '..UptoSaid' is the law's where the arguments, and the package variables that the reading takes, are together of bulk at most 1048576: NARROWER than '..Said'. Prove '..Said' where nothing that the law and all that it calls make is longer than what came in: it says more and counts as full. Else prove '..UptoSaid'. A law counts once. -/
mutual
def uptoBulk {H : Type} : DataW H → Nat
  | .lit (.string bytes) => bytes.length + 1
  | .lit _ => 1
  | .nil => 1
  | .ptr d => uptoBulk d + 1
  | .slice elems spare => uptoBulkAll elems + uptoBulkAll spare + 1
  | .agg parts => uptoBulkAll parts + 1
  | .iface _ d => uptoBulk d + 1
  | .map entries => uptoBulkEntries entries + 1
  | .held _ => 1
def uptoBulkAll {H : Type} : List (DataW H) → Nat
  | [] => 0
  | d :: r => uptoBulk d + uptoBulkAll r
def uptoBulkEntries {H : Type} : List (Lit × DataW H) → Nat
  | [] => 0
  | x :: r => uptoBulkEntry x + uptoBulkEntries r
def uptoBulkEntry {H : Type} : Lit × DataW H → Nat
  | (.string bytes, d) => bytes.length + uptoBulk d + 1
  | (_, d) => uptoBulk d + 1
 end
def uptoSmall : (H : Type) → List (DataW H) → Bool := fun _ ds => decide (uptoBulkAll ds ≤ 1048576)
def OpenSpec.upto (s : _root_.Go.ChangeSpec) : _root_.Go.OpenSpec := { _root_.Go.OpenSpec.ofChange s with cond := some uptoSmall }

/-- 'sedgelaw05.WaleBests', WHERE WHAT IT READS IS OF BULK AT MOST 1048576: true; the input reads as it did. -/
def waleBestsUptoRow : OpenClaim := { program := "ytnjloomhhgilcaa", sum := "86213ce999b69adac0a0536e74ad3057d3f4c7dc6043a01fc2e6dcfc87caef16", func := "sedge/sedgelaw05.WaleBests", spec := "waleBests", unfollowed := true, recurses := true, apart := false, narrowed := true }
def WaleBestsUptoSaid : Prop := waleBestsUptoRow.holds Try.pinned (OpenSpec.upto waleBestsSpec)

/-- 'sedgelaw05.WaleEnds', WHERE WHAT IT READS IS OF BULK AT MOST 1048576: true; the input reads as it did. -/
def waleEndsUptoRow : OpenClaim := { program := "ytnjloomhhgilcaa", sum := "86213ce999b69adac0a0536e74ad3057d3f4c7dc6043a01fc2e6dcfc87caef16", func := "sedge/sedgelaw05.WaleEnds", spec := "waleEnds", unfollowed := true, recurses := true, apart := false, narrowed := true }
def WaleEndsUptoSaid : Prop := waleEndsUptoRow.holds Try.pinned (OpenSpec.upto waleEndsSpec)

/-- 'sedgelaw05.WaleGrows', WHERE WHAT IT READS IS OF BULK AT MOST 1048576: true; the input reads as it did. -/
def waleGrowsUptoRow : OpenClaim := { program := "ytnjloomhhgilcaa", sum := "86213ce999b69adac0a0536e74ad3057d3f4c7dc6043a01fc2e6dcfc87caef16", func := "sedge/sedgelaw05.WaleGrows", spec := "waleGrows", unfollowed := true, recurses := true, apart := false, narrowed := true }
def WaleGrowsUptoSaid : Prop := waleGrowsUptoRow.holds Try.pinned (OpenSpec.upto waleGrowsSpec)

/-- 'sedgetop.TopRotation', WHERE WHAT IT READS IS OF BULK AT MOST 1048576: true; the input reads as it did. -/
def topRotationUptoRow : OpenClaim := { program := "ytnjloomhhgilcaa", sum := "86213ce999b69adac0a0536e74ad3057d3f4c7dc6043a01fc2e6dcfc87caef16", func := "sedge/sedgetop.TopRotation", spec := "topRotation", unfollowed := true, recurses := true, apart := false, narrowed := true }
def TopRotationUptoSaid : Prop := topRotationUptoRow.holds Try.pinned (OpenSpec.upto topRotationSpec)

end Rows
end Go.Proofs.Ytnjloomhhgilcaa
