/-
  No cell of these rows narrows 'for every input' (looked for: loops, veiled, ifaces, maps, wideKeys, modest, calm, conditions, laid).
  DERIVED. THE GIVEN ROWS OF THIS SEAT. 12 by the template 'for every input the law returns true; each argument reads behind the call as it read before'; 0 by the template 'total and deterministic' (their statements: YtihgadppndcjaaaTotals.lean).
  GIVEN WITH THE SEED: the statements are not yours to turn. If you find one false, say at which input.
  Laid BY PROGRAM, IN A SANDBOX (cutbox-rows.mjs): the forced cells as the released guide's own fill.sh prints them over the translation 1b7b696dd34a5c78… (all of the seat's roots in one cut). By AI agents, Wed Nov 11 2026. No macro, syntax, notation, axiom, sorry.
-/
import Derived.Test.YtihgadppndcjaaaChecked
import GoSem.Claim
import GoSem.ClaimJoined
import GoSem.ClaimMapViews
import Derived.JoinedTies
import Derived.KernelRfl
namespace Go.Proofs.Ytihgadppndcjaaa
/- THE CELL 'sum', in the pinned program and in every row, IS THE sha256 OF THE DUMP (.gsa) THAT YtihgadppndcjaaaProg.lean LOADS. Nothing in Lean hashes anything: it is a label: what it is worth is what the hold of that sum in a sandbox is worth. -/
noncomputable def Try.pinned : Pinned := { name := "ytihgadppndcjaaa", sum := "1b7b696dd34a5c782ee2811326e5bb36aac1ee437a51edcecbf6e0d76a54dfd9", checked := Try.checked }
namespace Rows
def none {H : Type} : Left H := { results := [], args := [] }

/-- 'sedgelaw03.SluiceLevels': WHATEVER THE INPUT: true; the input reads as it did. -/
def sluiceLevelsSpec : ChangeSpec := { name := "sluiceLevels", fn := fun _ => fun
  | [d] => { results := [.lit (.bool true)], args := [d] }
  | _ => none }
def sluiceLevelsRow : OpenClaim := { program := "ytihgadppndcjaaa", sum := "1b7b696dd34a5c782ee2811326e5bb36aac1ee437a51edcecbf6e0d76a54dfd9", func := "sedge/sedgelaw03.SluiceLevels", spec := "sluiceLevels", unfollowed := true, recurses := true, apart := false }
def SluiceLevelsSaid : Prop := sluiceLevelsRow.holds Try.pinned (OpenSpec.ofChange sluiceLevelsSpec)

/-- ITS FALSE NEIGHBOUR: 'it returns false'. Refute it at one input. -/
def sluiceLevelsWrong : ChangeSpec := { name := "sluiceLevels", fn := fun _ => fun
  | [d] => { results := [.lit (.bool false)], args := [d] }
  | _ => none }
def SluiceLevelsWrongFalsely : Prop := sluiceLevelsRow.holds Try.pinned (OpenSpec.ofChange sluiceLevelsWrong)

/-- 'sedgelaw03.SluiceOuts': WHATEVER THE INPUT: true; the input reads as it did. -/
def sluiceOutsSpec : ChangeSpec := { name := "sluiceOuts", fn := fun _ => fun
  | [d1, d2, d3] => { results := [.lit (.bool true)], args := [d1, d2, d3] }
  | _ => none }
def sluiceOutsRow : OpenClaim := { program := "ytihgadppndcjaaa", sum := "1b7b696dd34a5c782ee2811326e5bb36aac1ee437a51edcecbf6e0d76a54dfd9", func := "sedge/sedgelaw03.SluiceOuts", spec := "sluiceOuts", unfollowed := true, recurses := true, apart := false }
def SluiceOutsSaid : Prop := sluiceOutsRow.holds Try.pinned (OpenSpec.ofChange sluiceOutsSpec)

/-- ITS FALSE NEIGHBOUR: 'it returns false'. Refute it at one input. -/
def sluiceOutsWrong : ChangeSpec := { name := "sluiceOuts", fn := fun _ => fun
  | [d1, d2, d3] => { results := [.lit (.bool false)], args := [d1, d2, d3] }
  | _ => none }
def SluiceOutsWrongFalsely : Prop := sluiceOutsRow.holds Try.pinned (OpenSpec.ofChange sluiceOutsWrong)

/-- 'sedgelaw03.SluiceRidges': WHATEVER THE INPUT: true; the input reads as it did. -/
def sluiceRidgesSpec : ChangeSpec := { name := "sluiceRidges", fn := fun _ => fun
  | [d1, d2] => { results := [.lit (.bool true)], args := [d1, d2] }
  | _ => none }
def sluiceRidgesRow : OpenClaim := { program := "ytihgadppndcjaaa", sum := "1b7b696dd34a5c782ee2811326e5bb36aac1ee437a51edcecbf6e0d76a54dfd9", func := "sedge/sedgelaw03.SluiceRidges", spec := "sluiceRidges", unfollowed := true, recurses := true, apart := false }
def SluiceRidgesSaid : Prop := sluiceRidgesRow.holds Try.pinned (OpenSpec.ofChange sluiceRidgesSpec)

/-- ITS FALSE NEIGHBOUR: 'it returns false'. Refute it at one input. -/
def sluiceRidgesWrong : ChangeSpec := { name := "sluiceRidges", fn := fun _ => fun
  | [d1, d2] => { results := [.lit (.bool false)], args := [d1, d2] }
  | _ => none }
def SluiceRidgesWrongFalsely : Prop := sluiceRidgesRow.holds Try.pinned (OpenSpec.ofChange sluiceRidgesWrong)

/-- 'sedgelaw03.SluicePonds': WHATEVER THE INPUT: true; the input reads as it did. -/
def sluicePondsSpec : ChangeSpec := { name := "sluicePonds", fn := fun _ => fun
  | [d] => { results := [.lit (.bool true)], args := [d] }
  | _ => none }
def sluicePondsRow : OpenClaim := { program := "ytihgadppndcjaaa", sum := "1b7b696dd34a5c782ee2811326e5bb36aac1ee437a51edcecbf6e0d76a54dfd9", func := "sedge/sedgelaw03.SluicePonds", spec := "sluicePonds", unfollowed := true, recurses := true, apart := false }
def SluicePondsSaid : Prop := sluicePondsRow.holds Try.pinned (OpenSpec.ofChange sluicePondsSpec)

/-- ITS FALSE NEIGHBOUR: 'it returns false'. Refute it at one input. -/
def sluicePondsWrong : ChangeSpec := { name := "sluicePonds", fn := fun _ => fun
  | [d] => { results := [.lit (.bool false)], args := [d] }
  | _ => none }
def SluicePondsWrongFalsely : Prop := sluicePondsRow.holds Try.pinned (OpenSpec.ofChange sluicePondsWrong)

/-- 'sedgelaw03.SluiceRaises': WHATEVER THE INPUT: true; the input reads as it did. -/
def sluiceRaisesSpec : ChangeSpec := { name := "sluiceRaises", fn := fun _ => fun
  | [d1, d2, d3] => { results := [.lit (.bool true)], args := [d1, d2, d3] }
  | _ => none }
def sluiceRaisesRow : OpenClaim := { program := "ytihgadppndcjaaa", sum := "1b7b696dd34a5c782ee2811326e5bb36aac1ee437a51edcecbf6e0d76a54dfd9", func := "sedge/sedgelaw03.SluiceRaises", spec := "sluiceRaises", unfollowed := true, recurses := true, apart := false }
def SluiceRaisesSaid : Prop := sluiceRaisesRow.holds Try.pinned (OpenSpec.ofChange sluiceRaisesSpec)

/-- ITS FALSE NEIGHBOUR: 'it returns false'. Refute it at one input. -/
def sluiceRaisesWrong : ChangeSpec := { name := "sluiceRaises", fn := fun _ => fun
  | [d1, d2, d3] => { results := [.lit (.bool false)], args := [d1, d2, d3] }
  | _ => none }
def SluiceRaisesWrongFalsely : Prop := sluiceRaisesRow.holds Try.pinned (OpenSpec.ofChange sluiceRaisesWrong)

/-- 'sedgelaw03.SluiceSettles': WHATEVER THE INPUT: true; the input reads as it did. -/
def sluiceSettlesSpec : ChangeSpec := { name := "sluiceSettles", fn := fun _ => fun
  | [d] => { results := [.lit (.bool true)], args := [d] }
  | _ => none }
def sluiceSettlesRow : OpenClaim := { program := "ytihgadppndcjaaa", sum := "1b7b696dd34a5c782ee2811326e5bb36aac1ee437a51edcecbf6e0d76a54dfd9", func := "sedge/sedgelaw03.SluiceSettles", spec := "sluiceSettles", unfollowed := true, recurses := true, apart := false }
def SluiceSettlesSaid : Prop := sluiceSettlesRow.holds Try.pinned (OpenSpec.ofChange sluiceSettlesSpec)

/-- ITS FALSE NEIGHBOUR: 'it returns false'. Refute it at one input. -/
def sluiceSettlesWrong : ChangeSpec := { name := "sluiceSettles", fn := fun _ => fun
  | [d] => { results := [.lit (.bool false)], args := [d] }
  | _ => none }
def SluiceSettlesWrongFalsely : Prop := sluiceSettlesRow.holds Try.pinned (OpenSpec.ofChange sluiceSettlesWrong)

/-- 'sedgelaw03.SluiceAfter': WHATEVER THE INPUT: true; the input reads as it did. -/
def sluiceAfterSpec : ChangeSpec := { name := "sluiceAfter", fn := fun _ => fun
  | [d1, d2] => { results := [.lit (.bool true)], args := [d1, d2] }
  | _ => none }
def sluiceAfterRow : OpenClaim := { program := "ytihgadppndcjaaa", sum := "1b7b696dd34a5c782ee2811326e5bb36aac1ee437a51edcecbf6e0d76a54dfd9", func := "sedge/sedgelaw03.SluiceAfter", spec := "sluiceAfter", unfollowed := true, recurses := true, apart := false }
def SluiceAfterSaid : Prop := sluiceAfterRow.holds Try.pinned (OpenSpec.ofChange sluiceAfterSpec)

/-- ITS FALSE NEIGHBOUR: 'it returns false'. Refute it at one input. -/
def sluiceAfterWrong : ChangeSpec := { name := "sluiceAfter", fn := fun _ => fun
  | [d1, d2] => { results := [.lit (.bool false)], args := [d1, d2] }
  | _ => none }
def SluiceAfterWrongFalsely : Prop := sluiceAfterRow.holds Try.pinned (OpenSpec.ofChange sluiceAfterWrong)

/-- 'sedgelaw03.SluiceLifts': WHATEVER THE INPUT: true; the input reads as it did. -/
def sluiceLiftsSpec : ChangeSpec := { name := "sluiceLifts", fn := fun _ => fun
  | [d1, d2, d3] => { results := [.lit (.bool true)], args := [d1, d2, d3] }
  | _ => none }
def sluiceLiftsRow : OpenClaim := { program := "ytihgadppndcjaaa", sum := "1b7b696dd34a5c782ee2811326e5bb36aac1ee437a51edcecbf6e0d76a54dfd9", func := "sedge/sedgelaw03.SluiceLifts", spec := "sluiceLifts", unfollowed := true, recurses := true, apart := false }
def SluiceLiftsSaid : Prop := sluiceLiftsRow.holds Try.pinned (OpenSpec.ofChange sluiceLiftsSpec)

/-- ITS FALSE NEIGHBOUR: 'it returns false'. Refute it at one input. -/
def sluiceLiftsWrong : ChangeSpec := { name := "sluiceLifts", fn := fun _ => fun
  | [d1, d2, d3] => { results := [.lit (.bool false)], args := [d1, d2, d3] }
  | _ => none }
def SluiceLiftsWrongFalsely : Prop := sluiceLiftsRow.holds Try.pinned (OpenSpec.ofChange sluiceLiftsWrong)

/-- 'sedgelaw03.SluiceShores': WHATEVER THE INPUT: true; the input reads as it did. -/
def sluiceShoresSpec : ChangeSpec := { name := "sluiceShores", fn := fun _ => fun
  | [d] => { results := [.lit (.bool true)], args := [d] }
  | _ => none }
def sluiceShoresRow : OpenClaim := { program := "ytihgadppndcjaaa", sum := "1b7b696dd34a5c782ee2811326e5bb36aac1ee437a51edcecbf6e0d76a54dfd9", func := "sedge/sedgelaw03.SluiceShores", spec := "sluiceShores", unfollowed := true, recurses := true, apart := false }
def SluiceShoresSaid : Prop := sluiceShoresRow.holds Try.pinned (OpenSpec.ofChange sluiceShoresSpec)

/-- ITS FALSE NEIGHBOUR: 'it returns false'. Refute it at one input. -/
def sluiceShoresWrong : ChangeSpec := { name := "sluiceShores", fn := fun _ => fun
  | [d] => { results := [.lit (.bool false)], args := [d] }
  | _ => none }
def SluiceShoresWrongFalsely : Prop := sluiceShoresRow.holds Try.pinned (OpenSpec.ofChange sluiceShoresWrong)

/-- 'sedgelaw03.SluiceMore': WHATEVER THE INPUT: true; the input reads as it did. -/
def sluiceMoreSpec : ChangeSpec := { name := "sluiceMore", fn := fun _ => fun
  | [d1, d2] => { results := [.lit (.bool true)], args := [d1, d2] }
  | _ => none }
def sluiceMoreRow : OpenClaim := { program := "ytihgadppndcjaaa", sum := "1b7b696dd34a5c782ee2811326e5bb36aac1ee437a51edcecbf6e0d76a54dfd9", func := "sedge/sedgelaw03.SluiceMore", spec := "sluiceMore", unfollowed := true, recurses := true, apart := false }
def SluiceMoreSaid : Prop := sluiceMoreRow.holds Try.pinned (OpenSpec.ofChange sluiceMoreSpec)

/-- ITS FALSE NEIGHBOUR: 'it returns false'. Refute it at one input. -/
def sluiceMoreWrong : ChangeSpec := { name := "sluiceMore", fn := fun _ => fun
  | [d1, d2] => { results := [.lit (.bool false)], args := [d1, d2] }
  | _ => none }
def SluiceMoreWrongFalsely : Prop := sluiceMoreRow.holds Try.pinned (OpenSpec.ofChange sluiceMoreWrong)

/-- 'sedgetop.TopWater': WHATEVER THE INPUT: true; the input reads as it did. -/
def topWaterSpec : ChangeSpec := { name := "topWater", fn := fun _ => fun
  | [d1, d2, d3] => { results := [.lit (.bool true)], args := [d1, d2, d3] }
  | _ => none }
def topWaterRow : OpenClaim := { program := "ytihgadppndcjaaa", sum := "1b7b696dd34a5c782ee2811326e5bb36aac1ee437a51edcecbf6e0d76a54dfd9", func := "sedge/sedgetop.TopWater", spec := "topWater", unfollowed := true, recurses := true, apart := false }
def TopWaterSaid : Prop := topWaterRow.holds Try.pinned (OpenSpec.ofChange topWaterSpec)

/-- ITS FALSE NEIGHBOUR: 'it returns false'. Refute it at one input. -/
def topWaterWrong : ChangeSpec := { name := "topWater", fn := fun _ => fun
  | [d1, d2, d3] => { results := [.lit (.bool false)], args := [d1, d2, d3] }
  | _ => none }
def TopWaterWrongFalsely : Prop := topWaterRow.holds Try.pinned (OpenSpec.ofChange topWaterWrong)

/-- 'sedgetop.TopBuckets': WHATEVER THE INPUT: true; the input reads as it did. -/
def topBucketsSpec : ChangeSpec := { name := "topBuckets", fn := fun _ => fun
  | [d1, d2] => { results := [.lit (.bool true)], args := [d1, d2] }
  | _ => none }
def topBucketsRow : OpenClaim := { program := "ytihgadppndcjaaa", sum := "1b7b696dd34a5c782ee2811326e5bb36aac1ee437a51edcecbf6e0d76a54dfd9", func := "sedge/sedgetop.TopBuckets", spec := "topBuckets", unfollowed := true, recurses := true, apart := false }
def TopBucketsSaid : Prop := topBucketsRow.holds Try.pinned (OpenSpec.ofChange topBucketsSpec)

/-- ITS FALSE NEIGHBOUR: 'it returns false'. Refute it at one input. -/
def topBucketsWrong : ChangeSpec := { name := "topBuckets", fn := fun _ => fun
  | [d1, d2] => { results := [.lit (.bool false)], args := [d1, d2] }
  | _ => none }
def TopBucketsWrongFalsely : Prop := topBucketsRow.holds Try.pinned (OpenSpec.ofChange topBucketsWrong)

/- THE SECOND FORM. 'bulk': how many values and letters a reading holds, each counted each time it is reached (what is shared counts as often as it is met; a slice's spare places count too). A statement '..UptoSaid' is the law's where the arguments, and the package variables that the reading takes, are together of bulk at most 1048576: NARROWER than '..Said'. Prove '..Said' where nothing that the law and all that it calls make is longer than what came in: it says more and counts as full. Else prove '..UptoSaid'. A law counts once. -/
mutual
def uptoBulk {H : Type} : DataW H → Nat
  | .lit (.string bytes) => bytes.length + 1
  | .lit _ => 1
  | .nil => 1
  | .ptr d => uptoBulk d + 1
  | .slice elems spare => uptoBulkAll elems + uptoBulkAll spare + 1
  | .agg parts => uptoBulkAll parts + 1
  | .iface _ d => uptoBulk d + 1
  | .map entries => uptoBulkEntries entries + 1
  | .held _ => 1
def uptoBulkAll {H : Type} : List (DataW H) → Nat
  | [] => 0
  | d :: r => uptoBulk d + uptoBulkAll r
def uptoBulkEntries {H : Type} : List (Lit × DataW H) → Nat
  | [] => 0
  | x :: r => uptoBulkEntry x + uptoBulkEntries r
def uptoBulkEntry {H : Type} : Lit × DataW H → Nat
  | (.string bytes, d) => bytes.length + uptoBulk d + 1
  | (_, d) => uptoBulk d + 1
 end
def uptoSmall : (H : Type) → List (DataW H) → Bool := fun _ ds => decide (uptoBulkAll ds ≤ 1048576)
def OpenSpec.upto (s : _root_.Go.ChangeSpec) : _root_.Go.OpenSpec := { _root_.Go.OpenSpec.ofChange s with cond := some uptoSmall }

/-- 'sedgelaw03.SluiceLevels', WHERE WHAT IT READS IS OF BULK AT MOST 1048576: true; the input reads as it did. -/
def sluiceLevelsUptoRow : OpenClaim := { program := "ytihgadppndcjaaa", sum := "1b7b696dd34a5c782ee2811326e5bb36aac1ee437a51edcecbf6e0d76a54dfd9", func := "sedge/sedgelaw03.SluiceLevels", spec := "sluiceLevels", unfollowed := true, recurses := true, apart := false, narrowed := true }
def SluiceLevelsUptoSaid : Prop := sluiceLevelsUptoRow.holds Try.pinned (OpenSpec.upto sluiceLevelsSpec)

/-- 'sedgelaw03.SluiceOuts', WHERE WHAT IT READS IS OF BULK AT MOST 1048576: true; the input reads as it did. -/
def sluiceOutsUptoRow : OpenClaim := { program := "ytihgadppndcjaaa", sum := "1b7b696dd34a5c782ee2811326e5bb36aac1ee437a51edcecbf6e0d76a54dfd9", func := "sedge/sedgelaw03.SluiceOuts", spec := "sluiceOuts", unfollowed := true, recurses := true, apart := false, narrowed := true }
def SluiceOutsUptoSaid : Prop := sluiceOutsUptoRow.holds Try.pinned (OpenSpec.upto sluiceOutsSpec)

/-- 'sedgelaw03.SluiceRidges', WHERE WHAT IT READS IS OF BULK AT MOST 1048576: true; the input reads as it did. -/
def sluiceRidgesUptoRow : OpenClaim := { program := "ytihgadppndcjaaa", sum := "1b7b696dd34a5c782ee2811326e5bb36aac1ee437a51edcecbf6e0d76a54dfd9", func := "sedge/sedgelaw03.SluiceRidges", spec := "sluiceRidges", unfollowed := true, recurses := true, apart := false, narrowed := true }
def SluiceRidgesUptoSaid : Prop := sluiceRidgesUptoRow.holds Try.pinned (OpenSpec.upto sluiceRidgesSpec)

/-- 'sedgelaw03.SluicePonds', WHERE WHAT IT READS IS OF BULK AT MOST 1048576: true; the input reads as it did. -/
def sluicePondsUptoRow : OpenClaim := { program := "ytihgadppndcjaaa", sum := "1b7b696dd34a5c782ee2811326e5bb36aac1ee437a51edcecbf6e0d76a54dfd9", func := "sedge/sedgelaw03.SluicePonds", spec := "sluicePonds", unfollowed := true, recurses := true, apart := false, narrowed := true }
def SluicePondsUptoSaid : Prop := sluicePondsUptoRow.holds Try.pinned (OpenSpec.upto sluicePondsSpec)

/-- 'sedgelaw03.SluiceRaises', WHERE WHAT IT READS IS OF BULK AT MOST 1048576: true; the input reads as it did. -/
def sluiceRaisesUptoRow : OpenClaim := { program := "ytihgadppndcjaaa", sum := "1b7b696dd34a5c782ee2811326e5bb36aac1ee437a51edcecbf6e0d76a54dfd9", func := "sedge/sedgelaw03.SluiceRaises", spec := "sluiceRaises", unfollowed := true, recurses := true, apart := false, narrowed := true }
def SluiceRaisesUptoSaid : Prop := sluiceRaisesUptoRow.holds Try.pinned (OpenSpec.upto sluiceRaisesSpec)

/-- 'sedgelaw03.SluiceSettles', WHERE WHAT IT READS IS OF BULK AT MOST 1048576: true; the input reads as it did. -/
def sluiceSettlesUptoRow : OpenClaim := { program := "ytihgadppndcjaaa", sum := "1b7b696dd34a5c782ee2811326e5bb36aac1ee437a51edcecbf6e0d76a54dfd9", func := "sedge/sedgelaw03.SluiceSettles", spec := "sluiceSettles", unfollowed := true, recurses := true, apart := false, narrowed := true }
def SluiceSettlesUptoSaid : Prop := sluiceSettlesUptoRow.holds Try.pinned (OpenSpec.upto sluiceSettlesSpec)

/-- 'sedgelaw03.SluiceAfter', WHERE WHAT IT READS IS OF BULK AT MOST 1048576: true; the input reads as it did. -/
def sluiceAfterUptoRow : OpenClaim := { program := "ytihgadppndcjaaa", sum := "1b7b696dd34a5c782ee2811326e5bb36aac1ee437a51edcecbf6e0d76a54dfd9", func := "sedge/sedgelaw03.SluiceAfter", spec := "sluiceAfter", unfollowed := true, recurses := true, apart := false, narrowed := true }
def SluiceAfterUptoSaid : Prop := sluiceAfterUptoRow.holds Try.pinned (OpenSpec.upto sluiceAfterSpec)

/-- 'sedgelaw03.SluiceLifts', WHERE WHAT IT READS IS OF BULK AT MOST 1048576: true; the input reads as it did. -/
def sluiceLiftsUptoRow : OpenClaim := { program := "ytihgadppndcjaaa", sum := "1b7b696dd34a5c782ee2811326e5bb36aac1ee437a51edcecbf6e0d76a54dfd9", func := "sedge/sedgelaw03.SluiceLifts", spec := "sluiceLifts", unfollowed := true, recurses := true, apart := false, narrowed := true }
def SluiceLiftsUptoSaid : Prop := sluiceLiftsUptoRow.holds Try.pinned (OpenSpec.upto sluiceLiftsSpec)

/-- 'sedgelaw03.SluiceShores', WHERE WHAT IT READS IS OF BULK AT MOST 1048576: true; the input reads as it did. -/
def sluiceShoresUptoRow : OpenClaim := { program := "ytihgadppndcjaaa", sum := "1b7b696dd34a5c782ee2811326e5bb36aac1ee437a51edcecbf6e0d76a54dfd9", func := "sedge/sedgelaw03.SluiceShores", spec := "sluiceShores", unfollowed := true, recurses := true, apart := false, narrowed := true }
def SluiceShoresUptoSaid : Prop := sluiceShoresUptoRow.holds Try.pinned (OpenSpec.upto sluiceShoresSpec)

/-- 'sedgelaw03.SluiceMore', WHERE WHAT IT READS IS OF BULK AT MOST 1048576: true; the input reads as it did. -/
def sluiceMoreUptoRow : OpenClaim := { program := "ytihgadppndcjaaa", sum := "1b7b696dd34a5c782ee2811326e5bb36aac1ee437a51edcecbf6e0d76a54dfd9", func := "sedge/sedgelaw03.SluiceMore", spec := "sluiceMore", unfollowed := true, recurses := true, apart := false, narrowed := true }
def SluiceMoreUptoSaid : Prop := sluiceMoreUptoRow.holds Try.pinned (OpenSpec.upto sluiceMoreSpec)

/-- 'sedgetop.TopWater', WHERE WHAT IT READS IS OF BULK AT MOST 1048576: true; the input reads as it did. -/
def topWaterUptoRow : OpenClaim := { program := "ytihgadppndcjaaa", sum := "1b7b696dd34a5c782ee2811326e5bb36aac1ee437a51edcecbf6e0d76a54dfd9", func := "sedge/sedgetop.TopWater", spec := "topWater", unfollowed := true, recurses := true, apart := false, narrowed := true }
def TopWaterUptoSaid : Prop := topWaterUptoRow.holds Try.pinned (OpenSpec.upto topWaterSpec)

/-- 'sedgetop.TopBuckets', WHERE WHAT IT READS IS OF BULK AT MOST 1048576: true; the input reads as it did. -/
def topBucketsUptoRow : OpenClaim := { program := "ytihgadppndcjaaa", sum := "1b7b696dd34a5c782ee2811326e5bb36aac1ee437a51edcecbf6e0d76a54dfd9", func := "sedge/sedgetop.TopBuckets", spec := "topBuckets", unfollowed := true, recurses := true, apart := false, narrowed := true }
def TopBucketsUptoSaid : Prop := topBucketsUptoRow.holds Try.pinned (OpenSpec.upto topBucketsSpec)

end Rows
end Go.Proofs.Ytihgadppndcjaaa
