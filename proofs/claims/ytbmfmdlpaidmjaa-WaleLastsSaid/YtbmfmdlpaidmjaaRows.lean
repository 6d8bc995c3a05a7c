/-
  No cell of these rows narrows 'for every input' (looked for: loops, veiled, ifaces, maps, wideKeys, modest, calm, conditions, laid).
  DERIVED. THE GIVEN ROWS OF THIS SEAT. 8 by the template 'for every input the law returns true; each argument reads behind the call as it read before'; 0 by the template 'total and deterministic' (their statements: YtbmfmdlpaidmjaaTotals.lean).
  GIVEN WITH THE SEED: the statements are not yours to turn. If you find one false, say at which input.
  Laid BY PROGRAM, IN A SANDBOX (cutbox-rows.mjs): the forced cells as the released guide's own fill.sh prints them over the translation e32ad02ba4e2604d… (all of the seat's roots in one cut). By AI agents, Wed Nov 11 2026. No macro, syntax, notation, axiom, sorry.
-/
import Derived.Test.YtbmfmdlpaidmjaaChecked
import GoSem.Claim
import GoSem.ClaimJoined
import GoSem.ClaimMapViews
import Derived.JoinedTies
import Derived.KernelRfl
namespace Go.Proofs.Ytbmfmdlpaidmjaa
/- THE CELL 'sum', in the pinned program and in every row, IS THE sha256 OF THE DUMP (.gsa) THAT YtbmfmdlpaidmjaaProg.lean LOADS. Nothing in Lean hashes anything: it is a label: what it is worth is what the hold of that sum in a sandbox is worth. -/
noncomputable def Try.pinned : Pinned := { name := "ytbmfmdlpaidmjaa", sum := "e32ad02ba4e2604d344bed6c06ae5bc457b534176490c12ff9b0f0dc15ec8b68", checked := Try.checked }
namespace Rows
def none {H : Type} : Left H := { results := [], args := [] }

/-- 'sedgelaw05.WalePlans': WHATEVER THE INPUT: true; the input reads as it did. -/
def walePlansSpec : ChangeSpec := { name := "walePlans", fn := fun _ => fun
  | [d1, d2, d3] => { results := [.lit (.bool true)], args := [d1, d2, d3] }
  | _ => none }
def walePlansRow : OpenClaim := { program := "ytbmfmdlpaidmjaa", sum := "e32ad02ba4e2604d344bed6c06ae5bc457b534176490c12ff9b0f0dc15ec8b68", func := "sedge/sedgelaw05.WalePlans", spec := "walePlans", unfollowed := true, recurses := true, apart := false }
def WalePlansSaid : Prop := walePlansRow.holds Try.pinned (OpenSpec.ofChange walePlansSpec)

/-- ITS FALSE NEIGHBOUR: 'it returns false'. Refute it at one input. -/
def walePlansWrong : ChangeSpec := { name := "walePlans", fn := fun _ => fun
  | [d1, d2, d3] => { results := [.lit (.bool false)], args := [d1, d2, d3] }
  | _ => none }
def WalePlansWrongFalsely : Prop := walePlansRow.holds Try.pinned (OpenSpec.ofChange walePlansWrong)

/-- 'sedgelaw05.WaleBests': WHATEVER THE INPUT: true; the input reads as it did. -/
def waleBestsSpec : ChangeSpec := { name := "waleBests", fn := fun _ => fun
  | [d1, d2, d3] => { results := [.lit (.bool true)], args := [d1, d2, d3] }
  | _ => none }
def waleBestsRow : OpenClaim := { program := "ytbmfmdlpaidmjaa", sum := "e32ad02ba4e2604d344bed6c06ae5bc457b534176490c12ff9b0f0dc15ec8b68", func := "sedge/sedgelaw05.WaleBests", spec := "waleBests", unfollowed := true, recurses := true, apart := false }
def WaleBestsSaid : Prop := waleBestsRow.holds Try.pinned (OpenSpec.ofChange waleBestsSpec)

/-- ITS FALSE NEIGHBOUR: 'it returns false'. Refute it at one input. -/
def waleBestsWrong : ChangeSpec := { name := "waleBests", fn := fun _ => fun
  | [d1, d2, d3] => { results := [.lit (.bool false)], args := [d1, d2, d3] }
  | _ => none }
def WaleBestsWrongFalsely : Prop := waleBestsRow.holds Try.pinned (OpenSpec.ofChange waleBestsWrong)

/-- 'sedgelaw05.WaleEnds': WHATEVER THE INPUT: true; the input reads as it did. -/
def waleEndsSpec : ChangeSpec := { name := "waleEnds", fn := fun _ => fun
  | [d] => { results := [.lit (.bool true)], args := [d] }
  | _ => none }
def waleEndsRow : OpenClaim := { program := "ytbmfmdlpaidmjaa", sum := "e32ad02ba4e2604d344bed6c06ae5bc457b534176490c12ff9b0f0dc15ec8b68", func := "sedge/sedgelaw05.WaleEnds", spec := "waleEnds", unfollowed := true, recurses := true, apart := false }
def WaleEndsSaid : Prop := waleEndsRow.holds Try.pinned (OpenSpec.ofChange waleEndsSpec)

/-- ITS FALSE NEIGHBOUR: 'it returns false'. Refute it at one input. -/
def waleEndsWrong : ChangeSpec := { name := "waleEnds", fn := fun _ => fun
  | [d] => { results := [.lit (.bool false)], args := [d] }
  | _ => none }
def WaleEndsWrongFalsely : Prop := waleEndsRow.holds Try.pinned (OpenSpec.ofChange waleEndsWrong)

/-- 'sedgelaw05.WaleCircles': WHATEVER THE INPUT: true; the input reads as it did. -/
def waleCirclesSpec : ChangeSpec := { name := "waleCircles", fn := fun _ => fun
  | [d1, d2, d3] => { results := [.lit (.bool true)], args := [d1, d2, d3] }
  | _ => none }
def waleCirclesRow : OpenClaim := { program := "ytbmfmdlpaidmjaa", sum := "e32ad02ba4e2604d344bed6c06ae5bc457b534176490c12ff9b0f0dc15ec8b68", func := "sedge/sedgelaw05.WaleCircles", spec := "waleCircles", unfollowed := true, recurses := true, apart := false }
def WaleCirclesSaid : Prop := waleCirclesRow.holds Try.pinned (OpenSpec.ofChange waleCirclesSpec)

/-- ITS FALSE NEIGHBOUR: 'it returns false'. Refute it at one input. -/
def waleCirclesWrong : ChangeSpec := { name := "waleCircles", fn := fun _ => fun
  | [d1, d2, d3] => { results := [.lit (.bool false)], args := [d1, d2, d3] }
  | _ => none }
def WaleCirclesWrongFalsely : Prop := waleCirclesRow.holds Try.pinned (OpenSpec.ofChange waleCirclesWrong)

/-- 'sedgelaw05.WaleProves': WHATEVER THE INPUT: true; the input reads as it did. -/
def waleProvesSpec : ChangeSpec := { name := "waleProves", fn := fun _ => fun
  | [d1, d2] => { results := [.lit (.bool true)], args := [d1, d2] }
  | _ => none }
def waleProvesRow : OpenClaim := { program := "ytbmfmdlpaidmjaa", sum := "e32ad02ba4e2604d344bed6c06ae5bc457b534176490c12ff9b0f0dc15ec8b68", func := "sedge/sedgelaw05.WaleProves", spec := "waleProves", unfollowed := true, recurses := true, apart := false }
def WaleProvesSaid : Prop := waleProvesRow.holds Try.pinned (OpenSpec.ofChange waleProvesSpec)

/-- ITS FALSE NEIGHBOUR: 'it returns false'. Refute it at one input. -/
def waleProvesWrong : ChangeSpec := { name := "waleProves", fn := fun _ => fun
  | [d1, d2] => { results := [.lit (.bool false)], args := [d1, d2] }
  | _ => none }
def WaleProvesWrongFalsely : Prop := waleProvesRow.holds Try.pinned (OpenSpec.ofChange waleProvesWrong)

/-- 'sedgelaw05.WaleGrows': WHATEVER THE INPUT: true; the input reads as it did. -/
def waleGrowsSpec : ChangeSpec := { name := "waleGrows", fn := fun _ => fun
  | [d1, d2, d3] => { results := [.lit (.bool true)], args := [d1, d2, d3] }
  | _ => none }
def waleGrowsRow : OpenClaim := { program := "ytbmfmdlpaidmjaa", sum := "e32ad02ba4e2604d344bed6c06ae5bc457b534176490c12ff9b0f0dc15ec8b68", func := "sedge/sedgelaw05.WaleGrows", spec := "waleGrows", unfollowed := true, recurses := true, apart := false }
def WaleGrowsSaid : Prop := waleGrowsRow.holds Try.pinned (OpenSpec.ofChange waleGrowsSpec)

/-- ITS FALSE NEIGHBOUR: 'it returns false'. Refute it at one input. -/
def waleGrowsWrong : ChangeSpec := { name := "waleGrows", fn := fun _ => fun
  | [d1, d2, d3] => { results := [.lit (.bool false)], args := [d1, d2, d3] }
  | _ => none }
def WaleGrowsWrongFalsely : Prop := waleGrowsRow.holds Try.pinned (OpenSpec.ofChange waleGrowsWrong)

/-- 'sedgelaw05.WaleLasts': WHATEVER THE INPUT: true; the input reads as it did. -/
def waleLastsSpec : ChangeSpec := { name := "waleLasts", fn := fun _ => fun
  | [d1, d2] => { results := [.lit (.bool true)], args := [d1, d2] }
  | _ => none }
def waleLastsRow : OpenClaim := { program := "ytbmfmdlpaidmjaa", sum := "e32ad02ba4e2604d344bed6c06ae5bc457b534176490c12ff9b0f0dc15ec8b68", func := "sedge/sedgelaw05.WaleLasts", spec := "waleLasts", unfollowed := true, recurses := true, apart := false }
def WaleLastsSaid : Prop := waleLastsRow.holds Try.pinned (OpenSpec.ofChange waleLastsSpec)

/-- ITS FALSE NEIGHBOUR: 'it returns false'. Refute it at one input. -/
def waleLastsWrong : ChangeSpec := { name := "waleLasts", fn := fun _ => fun
  | [d1, d2] => { results := [.lit (.bool false)], args := [d1, d2] }
  | _ => none }
def WaleLastsWrongFalsely : Prop := waleLastsRow.holds Try.pinned (OpenSpec.ofChange waleLastsWrong)

/-- 'sedgetop.TopRotation': WHATEVER THE INPUT: true; the input reads as it did. -/
def topRotationSpec : ChangeSpec := { name := "topRotation", fn := fun _ => fun
  | [d1, d2, d3] => { results := [.lit (.bool true)], args := [d1, d2, d3] }
  | _ => none }
def topRotationRow : OpenClaim := { program := "ytbmfmdlpaidmjaa", sum := "e32ad02ba4e2604d344bed6c06ae5bc457b534176490c12ff9b0f0dc15ec8b68", func := "sedge/sedgetop.TopRotation", spec := "topRotation", unfollowed := true, recurses := true, apart := false }
def TopRotationSaid : Prop := topRotationRow.holds Try.pinned (OpenSpec.ofChange topRotationSpec)

/-- ITS FALSE NEIGHBOUR: 'it returns false'. Refute it at one input. -/
def topRotationWrong : ChangeSpec := { name := "topRotation", fn := fun _ => fun
  | [d1, d2, d3] => { results := [.lit (.bool false)], args := [d1, d2, d3] }
  | _ => none }
def TopRotationWrongFalsely : Prop := topRotationRow.holds Try.pinned (OpenSpec.ofChange topRotationWrong)

/- THE SECOND FORM. 'bulk': how many values and letters a reading holds, each counted each time it is reached (what is shared counts as often as it is met; a slice's spare places count too). A statement '..UptoSaid' is the law's where the arguments, and the package variables that the reading takes, are together of bulk at most 1048576: NARROWER than '..Said'. Prove '..Said' where nothing that the law and all that it calls make is longer than what came in: it says more and counts as full. Else prove '..UptoSaid'. A law counts once. -/
mutual
def uptoBulk {H : Type} : DataW H → Nat
  | .lit (.string bytes) => bytes.length + 1
  | .lit _ => 1
  | .nil => 1
  | .ptr d => uptoBulk d + 1
  | .slice elems spare => uptoBulkAll elems + uptoBulkAll spare + 1
  | .agg parts => uptoBulkAll parts + 1
  | .iface _ d => uptoBulk d + 1
  | .map entries => uptoBulkEntries entries + 1
  | .held _ => 1
def uptoBulkAll {H : Type} : List (DataW H) → Nat
  | [] => 0
  | d :: r => uptoBulk d + uptoBulkAll r
def uptoBulkEntries {H : Type} : List (Lit × DataW H) → Nat
  | [] => 0
  | x :: r => uptoBulkEntry x + uptoBulkEntries r
def uptoBulkEntry {H : Type} : Lit × DataW H → Nat
  | (.string bytes, d) => bytes.length + uptoBulk d + 1
  | (_, d) => uptoBulk d + 1
 end
def uptoSmall : (H : Type) → List (DataW H) → Bool := fun _ ds => decide (uptoBulkAll ds ≤ 1048576)
def OpenSpec.upto (s : _root_.Go.ChangeSpec) : _root_.Go.OpenSpec := { _root_.Go.OpenSpec.ofChange s with cond := some uptoSmall }

/-- 'sedgelaw05.WalePlans', WHERE WHAT IT READS IS OF BULK AT MOST 1048576: true; the input reads as it did. -/
def walePlansUptoRow : OpenClaim := { program := "ytbmfmdlpaidmjaa", sum := "e32ad02ba4e2604d344bed6c06ae5bc457b534176490c12ff9b0f0dc15ec8b68", func := "sedge/sedgelaw05.WalePlans", spec := "walePlans", unfollowed := true, recurses := true, apart := false, narrowed := true }
def WalePlansUptoSaid : Prop := walePlansUptoRow.holds Try.pinned (OpenSpec.upto walePlansSpec)

/-- 'sedgelaw05.WaleBests', WHERE WHAT IT READS IS OF BULK AT MOST 1048576: true; the input reads as it did. -/
def waleBestsUptoRow : OpenClaim := { program := "ytbmfmdlpaidmjaa", sum := "e32ad02ba4e2604d344bed6c06ae5bc457b534176490c12ff9b0f0dc15ec8b68", func := "sedge/sedgelaw05.WaleBests", spec := "waleBests", unfollowed := true, recurses := true, apart := false, narrowed := true }
def WaleBestsUptoSaid : Prop := waleBestsUptoRow.holds Try.pinned (OpenSpec.upto waleBestsSpec)

/-- 'sedgelaw05.WaleEnds', WHERE WHAT IT READS IS OF BULK AT MOST 1048576: true; the input reads as it did. -/
def waleEndsUptoRow : OpenClaim := { program := "ytbmfmdlpaidmjaa", sum := "e32ad02ba4e2604d344bed6c06ae5bc457b534176490c12ff9b0f0dc15ec8b68", func := "sedge/sedgelaw05.WaleEnds", spec := "waleEnds", unfollowed := true, recurses := true, apart := false, narrowed := true }
def WaleEndsUptoSaid : Prop := waleEndsUptoRow.holds Try.pinned (OpenSpec.upto waleEndsSpec)

/-- 'sedgelaw05.WaleCircles', WHERE WHAT IT READS IS OF BULK AT MOST 1048576: true; the input reads as it did. -/
def waleCirclesUptoRow : OpenClaim := { program := "ytbmfmdlpaidmjaa", sum := "e32ad02ba4e2604d344bed6c06ae5bc457b534176490c12ff9b0f0dc15ec8b68", func := "sedge/sedgelaw05.WaleCircles", spec := "waleCircles", unfollowed := true, recurses := true, apart := false, narrowed := true }
def WaleCirclesUptoSaid : Prop := waleCirclesUptoRow.holds Try.pinned (OpenSpec.upto waleCirclesSpec)

/-- 'sedgelaw05.WaleProves', WHERE WHAT IT READS IS OF BULK AT MOST 1048576: true; the input reads as it did. -/
def waleProvesUptoRow : OpenClaim := { program := "ytbmfmdlpaidmjaa", sum := "e32ad02ba4e2604d344bed6c06ae5bc457b534176490c12ff9b0f0dc15ec8b68", func := "sedge/sedgelaw05.WaleProves", spec := "waleProves", unfollowed := true, recurses := true, apart := false, narrowed := true }
def WaleProvesUptoSaid : Prop := waleProvesUptoRow.holds Try.pinned (OpenSpec.upto waleProvesSpec)

/-- 'sedgelaw05.WaleGrows', WHERE WHAT IT READS IS OF BULK AT MOST 1048576: true; the input reads as it did. -/
def waleGrowsUptoRow : OpenClaim := { program := "ytbmfmdlpaidmjaa", sum := "e32ad02ba4e2604d344bed6c06ae5bc457b534176490c12ff9b0f0dc15ec8b68", func := "sedge/sedgelaw05.WaleGrows", spec := "waleGrows", unfollowed := true, recurses := true, apart := false, narrowed := true }
def WaleGrowsUptoSaid : Prop := waleGrowsUptoRow.holds Try.pinned (OpenSpec.upto waleGrowsSpec)

/-- 'sedgelaw05.WaleLasts', WHERE WHAT IT READS IS OF BULK AT MOST 1048576: true; the input reads as it did. -/
def waleLastsUptoRow : OpenClaim := { program := "ytbmfmdlpaidmjaa", sum := "e32ad02ba4e2604d344bed6c06ae5bc457b534176490c12ff9b0f0dc15ec8b68", func := "sedge/sedgelaw05.WaleLasts", spec := "waleLasts", unfollowed := true, recurses := true, apart := false, narrowed := true }
def WaleLastsUptoSaid : Prop := waleLastsUptoRow.holds Try.pinned (OpenSpec.upto waleLastsSpec)

/-- 'sedgetop.TopRotation', WHERE WHAT IT READS IS OF BULK AT MOST 1048576: true; the input reads as it did. -/
def topRotationUptoRow : OpenClaim := { program := "ytbmfmdlpaidmjaa", sum := "e32ad02ba4e2604d344bed6c06ae5bc457b534176490c12ff9b0f0dc15ec8b68", func := "sedge/sedgetop.TopRotation", spec := "topRotation", unfollowed := true, recurses := true, apart := false, narrowed := true }
def TopRotationUptoSaid : Prop := topRotationUptoRow.holds Try.pinned (OpenSpec.upto topRotationSpec)

end Rows
end Go.Proofs.Ytbmfmdlpaidmjaa
