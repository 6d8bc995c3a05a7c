/-
  No cell of these rows narrows 'for every input' (looked for: loops, veiled, ifaces, maps, wideKeys, modest, calm, conditions, laid).
  DERIVED. THE GIVEN ROWS OF THIS SEAT. 3 by the template 'for every input the law returns true; each argument reads behind the call as it read before'; 0 by the template 'total and deterministic' (their statements: YtelfinjnbncnlaaTotals.lean).
  GIVEN WITH THE SEED: the statements are not yours to turn. If you find one false, say at which input.
  Laid BY PROGRAM, IN A SANDBOX (cutbox-rows.mjs): the forced cells as the released guide's own fill.sh prints them over the translation e3e6a50f40d67615… (all of the seat's roots in one cut). By AI agents, Wed Nov 11 2026. No macro, syntax, notation, axiom, sorry.
-/
import Derived.Test.YtelfinjnbncnlaaChecked
import GoSem.Claim
import GoSem.ClaimJoined
import GoSem.ClaimMapViews
import Derived.JoinedTies
import Derived.KernelRfl
namespace Go.Proofs.Ytelfinjnbncnlaa
/- THE CELL 'sum', in the pinned program and in every row, IS THE sha256 OF THE DUMP (.gsa) THAT YtelfinjnbncnlaaProg.lean LOADS. Nothing in Lean hashes anything: it is a label: what it is worth is what the hold of that sum in a sandbox is worth. -/
noncomputable def Try.pinned : Pinned := { name := "ytelfinjnbncnlaa", sum := "e3e6a50f40d6761505dfa7f1d018f311621d542c82f053132979407b6885d026", checked := Try.checked }
namespace Rows
def none {H : Type} : Left H := { results := [], args := [] }

/-- 'sedgelaw03.SluiceRidges': WHATEVER THE INPUT: true; the input reads as it did. -/
def sluiceRidgesSpec : ChangeSpec := { name := "sluiceRidges", fn := fun _ => fun
  | [d1, d2] => { results := [.lit (.bool true)], args := [d1, d2] }
  | _ => none }
def sluiceRidgesRow : OpenClaim := { program := "ytelfinjnbncnlaa", sum := "e3e6a50f40d6761505dfa7f1d018f311621d542c82f053132979407b6885d026", func := "sedge/sedgelaw03.SluiceRidges", spec := "sluiceRidges", unfollowed := true, recurses := true, apart := false }
def SluiceRidgesSaid : Prop := sluiceRidgesRow.holds Try.pinned (OpenSpec.ofChange sluiceRidgesSpec)

/-- ITS FALSE NEIGHBOUR: 'it returns false'. Refute it at one input. -/
def sluiceRidgesWrong : ChangeSpec := { name := "sluiceRidges", fn := fun _ => fun
  | [d1, d2] => { results := [.lit (.bool false)], args := [d1, d2] }
  | _ => none }
def SluiceRidgesWrongFalsely : Prop := sluiceRidgesRow.holds Try.pinned (OpenSpec.ofChange sluiceRidgesWrong)

/-- 'sedgelaw03.SluicePonds': WHATEVER THE INPUT: true; the input reads as it did. -/
def sluicePondsSpec : ChangeSpec := { name := "sluicePonds", fn := fun _ => fun
  | [d] => { results := [.lit (.bool true)], args := [d] }
  | _ => none }
def sluicePondsRow : OpenClaim := { program := "ytelfinjnbncnlaa", sum := "e3e6a50f40d6761505dfa7f1d018f311621d542c82f053132979407b6885d026", func := "sedge/sedgelaw03.SluicePonds", spec := "sluicePonds", unfollowed := true, recurses := true, apart := false }
def SluicePondsSaid : Prop := sluicePondsRow.holds Try.pinned (OpenSpec.ofChange sluicePondsSpec)

/-- ITS FALSE NEIGHBOUR: 'it returns false'. Refute it at one input. -/
def sluicePondsWrong : ChangeSpec := { name := "sluicePonds", fn := fun _ => fun
  | [d] => { results := [.lit (.bool false)], args := [d] }
  | _ => none }
def SluicePondsWrongFalsely : Prop := sluicePondsRow.holds Try.pinned (OpenSpec.ofChange sluicePondsWrong)

/-- 'sedgelaw03.SluiceRaises': WHATEVER THE INPUT: true; the input reads as it did. -/
def sluiceRaisesSpec : ChangeSpec := { name := "sluiceRaises", fn := fun _ => fun
  | [d1, d2, d3] => { results := [.lit (.bool true)], args := [d1, d2, d3] }
  | _ => none }
def sluiceRaisesRow : OpenClaim := { program := "ytelfinjnbncnlaa", sum := "e3e6a50f40d6761505dfa7f1d018f311621d542c82f053132979407b6885d026", func := "sedge/sedgelaw03.SluiceRaises", spec := "sluiceRaises", unfollowed := true, recurses := true, apart := false }
def SluiceRaisesSaid : Prop := sluiceRaisesRow.holds Try.pinned (OpenSpec.ofChange sluiceRaisesSpec)

/-- ITS FALSE NEIGHBOUR: 'it returns false'. Refute it at one input. -/
def sluiceRaisesWrong : ChangeSpec := { name := "sluiceRaises", fn := fun _ => fun
  | [d1, d2, d3] => { results := [.lit (.bool false)], args := [d1, d2, d3] }
  | _ => none }
def SluiceRaisesWrongFalsely : Prop := sluiceRaisesRow.holds Try.pinned (OpenSpec.ofChange sluiceRaisesWrong)

/- THE SECOND FORM. 'bulk': how many values and letters a reading holds, each counted each time it is reached (what is shared counts as often as it is met; a slice's spare places count too). A statement '..UptoSaid' is the law's where the arguments, and the package variables that the reading takes, are together of bulk at most 1048576: NARROWER than '..Said'. Prove '..Said' where nothing that the law and all that it calls make is longer than what came in: it says more and counts as full. Else prove '..UptoSaid'. A law counts once. -/
mutual
def uptoBulk {H : Type} : DataW H → Nat
  | .lit (.string bytes) => bytes.length + 1
  | .lit _ => 1
  | .nil => 1
  | .ptr d => uptoBulk d + 1
  | .slice elems spare => uptoBulkAll elems + uptoBulkAll spare + 1
  | .agg parts => uptoBulkAll parts + 1
  | .iface _ d => uptoBulk d + 1
  | .map entries => uptoBulkEntries entries + 1
  | .held _ => 1
def uptoBulkAll {H : Type} : List (DataW H) → Nat
  | [] => 0
  | d :: r => uptoBulk d + uptoBulkAll r
def uptoBulkEntries {H : Type} : List (Lit × DataW H) → Nat
  | [] => 0
  | x :: r => uptoBulkEntry x + uptoBulkEntries r
def uptoBulkEntry {H : Type} : Lit × DataW H → Nat
  | (.string bytes, d) => bytes.length + uptoBulk d + 1
  | (_, d) => uptoBulk d + 1
 end
def uptoSmall : (H : Type) → List (DataW H) → Bool := fun _ ds => decide (uptoBulkAll ds ≤ 1048576)
def OpenSpec.upto (s : _root_.Go.ChangeSpec) : _root_.Go.OpenSpec := { _root_.Go.OpenSpec.ofChange s with cond := some uptoSmall }

/-- 'sedgelaw03.SluiceRidges', WHERE WHAT IT READS IS OF BULK AT MOST 1048576: true; the input reads as it did. -/
def sluiceRidgesUptoRow : OpenClaim := { program := "ytelfinjnbncnlaa", sum := "e3e6a50f40d6761505dfa7f1d018f311621d542c82f053132979407b6885d026", func := "sedge/sedgelaw03.SluiceRidges", spec := "sluiceRidges", unfollowed := true, recurses := true, apart := false, narrowed := true }
def SluiceRidgesUptoSaid : Prop := sluiceRidgesUptoRow.holds Try.pinned (OpenSpec.upto sluiceRidgesSpec)

/-- 'sedgelaw03.SluicePonds', WHERE WHAT IT READS IS OF BULK AT MOST 1048576: true; the input reads as it did. -/
def sluicePondsUptoRow : OpenClaim := { program := "ytelfinjnbncnlaa", sum := "e3e6a50f40d6761505dfa7f1d018f311621d542c82f053132979407b6885d026", func := "sedge/sedgelaw03.SluicePonds", spec := "sluicePonds", unfollowed := true, recurses := true, apart := false, narrowed := true }
def SluicePondsUptoSaid : Prop := sluicePondsUptoRow.holds Try.pinned (OpenSpec.upto sluicePondsSpec)

/-- 'sedgelaw03.SluiceRaises', WHERE WHAT IT READS IS OF BULK AT MOST 1048576: true; the input reads as it did. -/
def sluiceRaisesUptoRow : OpenClaim := { program := "ytelfinjnbncnlaa", sum := "e3e6a50f40d6761505dfa7f1d018f311621d542c82f053132979407b6885d026", func := "sedge/sedgelaw03.SluiceRaises", spec := "sluiceRaises", unfollowed := true, recurses := true, apart := false, narrowed := true }
def SluiceRaisesUptoSaid : Prop := sluiceRaisesUptoRow.holds Try.pinned (OpenSpec.upto sluiceRaisesSpec)

end Rows
end Go.Proofs.Ytelfinjnbncnlaa
