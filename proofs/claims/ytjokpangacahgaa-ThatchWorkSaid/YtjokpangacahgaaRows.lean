/-
  No cell of these rows narrows 'for every input' (looked for: loops, veiled, ifaces, maps, wideKeys, modest, calm, conditions, laid).
  DERIVED. THE GIVEN ROWS OF THIS SEAT. 8 by the template 'for every input the law returns true; each argument reads behind the call as it read before'; 0 by the template 'total and deterministic' (their statements: YtjokpangacahgaaTotals.lean).
  GIVEN WITH THE SEED: the statements are not yours to turn. If you find one false, say at which input.
  Laid BY PROGRAM, IN A SANDBOX (cutbox-rows.mjs): the forced cells as the released guide's own fill.sh prints them over the translation e71db3f6db0d0d38… (all of the seat's roots in one cut). By AI agents, Wed Nov 11 2026. No macro, syntax, notation, axiom, sorry.
-/
import Derived.Test.YtjokpangacahgaaChecked
import GoSem.Claim
import GoSem.ClaimJoined
import GoSem.ClaimMapViews
import Derived.JoinedTies
import Derived.KernelRfl
namespace Go.Proofs.Ytjokpangacahgaa
/- THE CELL 'sum', in the pinned program and in every row, IS THE sha256 OF THE DUMP (.gsa) THAT YtjokpangacahgaaProg.lean LOADS. Nothing in Lean hashes anything: it is a label: what it is worth is what the hold of that sum in a sandbox is worth. -/
noncomputable def Try.pinned : Pinned := { name := "ytjokpangacahgaa", sum := "e71db3f6db0d0d3850f658eba3c62c948c10c4d1114836c18af6d7f2dc4cdd0b", checked := Try.checked }
namespace Rows
def none {H : Type} : Left H := { results := [], args := [] }

/-- 'sedgelaw08.ThatchPitches': WHATEVER THE INPUT: true; the input reads as it did. -/
def thatchPitchesSpec : ChangeSpec := { name := "thatchPitches", fn := fun _ => fun
  | [d1, d2] => { results := [.lit (.bool true)], args := [d1, d2] }
  | _ => none }
def thatchPitchesRow : OpenClaim := { program := "ytjokpangacahgaa", sum := "e71db3f6db0d0d3850f658eba3c62c948c10c4d1114836c18af6d7f2dc4cdd0b", func := "sedge/sedgelaw08.ThatchPitches", spec := "thatchPitches", unfollowed := true, recurses := true, apart := false }
def ThatchPitchesSaid : Prop := thatchPitchesRow.holds Try.pinned (OpenSpec.ofChange thatchPitchesSpec)

/-- ITS FALSE NEIGHBOUR: 'it returns false'. Refute it at one input. -/
def thatchPitchesWrong : ChangeSpec := { name := "thatchPitches", fn := fun _ => fun
  | [d1, d2] => { results := [.lit (.bool false)], args := [d1, d2] }
  | _ => none }
def ThatchPitchesWrongFalsely : Prop := thatchPitchesRow.holds Try.pinned (OpenSpec.ofChange thatchPitchesWrong)

/-- 'sedgelaw08.ThatchRoofs': WHATEVER THE INPUT: true; the input reads as it did. -/
def thatchRoofsSpec : ChangeSpec := { name := "thatchRoofs", fn := fun _ => fun
  | [d1, d2] => { results := [.lit (.bool true)], args := [d1, d2] }
  | _ => none }
def thatchRoofsRow : OpenClaim := { program := "ytjokpangacahgaa", sum := "e71db3f6db0d0d3850f658eba3c62c948c10c4d1114836c18af6d7f2dc4cdd0b", func := "sedge/sedgelaw08.ThatchRoofs", spec := "thatchRoofs", unfollowed := true, recurses := true, apart := false }
def ThatchRoofsSaid : Prop := thatchRoofsRow.holds Try.pinned (OpenSpec.ofChange thatchRoofsSpec)

/-- ITS FALSE NEIGHBOUR: 'it returns false'. Refute it at one input. -/
def thatchRoofsWrong : ChangeSpec := { name := "thatchRoofs", fn := fun _ => fun
  | [d1, d2] => { results := [.lit (.bool false)], args := [d1, d2] }
  | _ => none }
def ThatchRoofsWrongFalsely : Prop := thatchRoofsRow.holds Try.pinned (OpenSpec.ofChange thatchRoofsWrong)

/-- 'sedgelaw08.ThatchCoats': WHATEVER THE INPUT: true; the input reads as it did. -/
def thatchCoatsSpec : ChangeSpec := { name := "thatchCoats", fn := fun _ => fun
  | [d1, d2, d3] => { results := [.lit (.bool true)], args := [d1, d2, d3] }
  | _ => none }
def thatchCoatsRow : OpenClaim := { program := "ytjokpangacahgaa", sum := "e71db3f6db0d0d3850f658eba3c62c948c10c4d1114836c18af6d7f2dc4cdd0b", func := "sedge/sedgelaw08.ThatchCoats", spec := "thatchCoats", unfollowed := true, recurses := true, apart := false }
def ThatchCoatsSaid : Prop := thatchCoatsRow.holds Try.pinned (OpenSpec.ofChange thatchCoatsSpec)

/-- ITS FALSE NEIGHBOUR: 'it returns false'. Refute it at one input. -/
def thatchCoatsWrong : ChangeSpec := { name := "thatchCoats", fn := fun _ => fun
  | [d1, d2, d3] => { results := [.lit (.bool false)], args := [d1, d2, d3] }
  | _ => none }
def ThatchCoatsWrongFalsely : Prop := thatchCoatsRow.holds Try.pinned (OpenSpec.ofChange thatchCoatsWrong)

/-- 'sedgelaw08.ThatchWork': WHATEVER THE INPUT: true; the input reads as it did. -/
def thatchWorkSpec : ChangeSpec := { name := "thatchWork", fn := fun _ => fun
  | [d1, d2, d3] => { results := [.lit (.bool true)], args := [d1, d2, d3] }
  | _ => none }
def thatchWorkRow : OpenClaim := { program := "ytjokpangacahgaa", sum := "e71db3f6db0d0d3850f658eba3c62c948c10c4d1114836c18af6d7f2dc4cdd0b", func := "sedge/sedgelaw08.ThatchWork", spec := "thatchWork", unfollowed := true, recurses := true, apart := false }
def ThatchWorkSaid : Prop := thatchWorkRow.holds Try.pinned (OpenSpec.ofChange thatchWorkSpec)

/-- ITS FALSE NEIGHBOUR: 'it returns false'. Refute it at one input. -/
def thatchWorkWrong : ChangeSpec := { name := "thatchWork", fn := fun _ => fun
  | [d1, d2, d3] => { results := [.lit (.bool false)], args := [d1, d2, d3] }
  | _ => none }
def ThatchWorkWrongFalsely : Prop := thatchWorkRow.holds Try.pinned (OpenSpec.ofChange thatchWorkWrong)

/-- 'sedgelaw08.ThatchTriples': WHATEVER THE INPUT: true; the input reads as it did. -/
def thatchTriplesSpec : ChangeSpec := { name := "thatchTriples", fn := fun _ => fun
  | [d1, d2] => { results := [.lit (.bool true)], args := [d1, d2] }
  | _ => none }
def thatchTriplesRow : OpenClaim := { program := "ytjokpangacahgaa", sum := "e71db3f6db0d0d3850f658eba3c62c948c10c4d1114836c18af6d7f2dc4cdd0b", func := "sedge/sedgelaw08.ThatchTriples", spec := "thatchTriples", unfollowed := true, recurses := true, apart := false }
def ThatchTriplesSaid : Prop := thatchTriplesRow.holds Try.pinned (OpenSpec.ofChange thatchTriplesSpec)

/-- ITS FALSE NEIGHBOUR: 'it returns false'. Refute it at one input. -/
def thatchTriplesWrong : ChangeSpec := { name := "thatchTriples", fn := fun _ => fun
  | [d1, d2] => { results := [.lit (.bool false)], args := [d1, d2] }
  | _ => none }
def ThatchTriplesWrongFalsely : Prop := thatchTriplesRow.holds Try.pinned (OpenSpec.ofChange thatchTriplesWrong)

/-- 'sedgelaw08.ThatchSame': WHATEVER THE INPUT: true; the input reads as it did. -/
def thatchSameSpec : ChangeSpec := { name := "thatchSame", fn := fun _ => fun
  | [d1, d2, d3] => { results := [.lit (.bool true)], args := [d1, d2, d3] }
  | _ => none }
def thatchSameRow : OpenClaim := { program := "ytjokpangacahgaa", sum := "e71db3f6db0d0d3850f658eba3c62c948c10c4d1114836c18af6d7f2dc4cdd0b", func := "sedge/sedgelaw08.ThatchSame", spec := "thatchSame", unfollowed := true, recurses := true, apart := false }
def ThatchSameSaid : Prop := thatchSameRow.holds Try.pinned (OpenSpec.ofChange thatchSameSpec)

/-- ITS FALSE NEIGHBOUR: 'it returns false'. Refute it at one input. -/
def thatchSameWrong : ChangeSpec := { name := "thatchSame", fn := fun _ => fun
  | [d1, d2, d3] => { results := [.lit (.bool false)], args := [d1, d2, d3] }
  | _ => none }
def ThatchSameWrongFalsely : Prop := thatchSameRow.holds Try.pinned (OpenSpec.ofChange thatchSameWrong)

/-- 'sedgelaw08.ThatchHours': WHATEVER THE INPUT: true; the input reads as it did. -/
def thatchHoursSpec : ChangeSpec := { name := "thatchHours", fn := fun _ => fun
  | [d1, d2, d3] => { results := [.lit (.bool true)], args := [d1, d2, d3] }
  | _ => none }
def thatchHoursRow : OpenClaim := { program := "ytjokpangacahgaa", sum := "e71db3f6db0d0d3850f658eba3c62c948c10c4d1114836c18af6d7f2dc4cdd0b", func := "sedge/sedgelaw08.ThatchHours", spec := "thatchHours", unfollowed := true, recurses := true, apart := false }
def ThatchHoursSaid : Prop := thatchHoursRow.holds Try.pinned (OpenSpec.ofChange thatchHoursSpec)

/-- ITS FALSE NEIGHBOUR: 'it returns false'. Refute it at one input. -/
def thatchHoursWrong : ChangeSpec := { name := "thatchHours", fn := fun _ => fun
  | [d1, d2, d3] => { results := [.lit (.bool false)], args := [d1, d2, d3] }
  | _ => none }
def ThatchHoursWrongFalsely : Prop := thatchHoursRow.holds Try.pinned (OpenSpec.ofChange thatchHoursWrong)

/-- 'sedgetop.TopThatch': WHATEVER THE INPUT: true; the input reads as it did. -/
def topThatchSpec : ChangeSpec := { name := "topThatch", fn := fun _ => fun
  | [d1, d2, d3] => { results := [.lit (.bool true)], args := [d1, d2, d3] }
  | _ => none }
def topThatchRow : OpenClaim := { program := "ytjokpangacahgaa", sum := "e71db3f6db0d0d3850f658eba3c62c948c10c4d1114836c18af6d7f2dc4cdd0b", func := "sedge/sedgetop.TopThatch", spec := "topThatch", unfollowed := true, recurses := true, apart := false }
def TopThatchSaid : Prop := topThatchRow.holds Try.pinned (OpenSpec.ofChange topThatchSpec)

/-- ITS FALSE NEIGHBOUR: 'it returns false'. Refute it at one input. -/
def topThatchWrong : ChangeSpec := { name := "topThatch", fn := fun _ => fun
  | [d1, d2, d3] => { results := [.lit (.bool false)], args := [d1, d2, d3] }
  | _ => none }
def TopThatchWrongFalsely : Prop := topThatchRow.holds Try.pinned (OpenSpec.ofChange topThatchWrong)

/- THE SECOND FORM. 'bulk': how many values and letters a reading holds, each counted each time it is reached (what is shared counts as often as it is met; a slice's spare places count too). A statement '..UptoSaid' is the law's where the arguments, and the package variables that the reading takes, are together of bulk at most 1048576: NARROWER than '..Said'. Prove '..Said' where nothing that the law and all that it calls make is longer than what came in: it says more and counts as full. Else prove '..UptoSaid'. A law counts once. -/
mutual
def uptoBulk {H : Type} : DataW H → Nat
  | .lit (.string bytes) => bytes.length + 1
  | .lit _ => 1
  | .nil => 1
  | .ptr d => uptoBulk d + 1
  | .slice elems spare => uptoBulkAll elems + uptoBulkAll spare + 1
  | .agg parts => uptoBulkAll parts + 1
  | .iface _ d => uptoBulk d + 1
  | .map entries => uptoBulkEntries entries + 1
  | .held _ => 1
def uptoBulkAll {H : Type} : List (DataW H) → Nat
  | [] => 0
  | d :: r => uptoBulk d + uptoBulkAll r
def uptoBulkEntries {H : Type} : List (Lit × DataW H) → Nat
  | [] => 0
  | x :: r => uptoBulkEntry x + uptoBulkEntries r
def uptoBulkEntry {H : Type} : Lit × DataW H → Nat
  | (.string bytes, d) => bytes.length + uptoBulk d + 1
  | (_, d) => uptoBulk d + 1
 end
def uptoSmall : (H : Type) → List (DataW H) → Bool := fun _ ds => decide (uptoBulkAll ds ≤ 1048576)
def OpenSpec.upto (s : _root_.Go.ChangeSpec) : _root_.Go.OpenSpec := { _root_.Go.OpenSpec.ofChange s with cond := some uptoSmall }

/-- 'sedgelaw08.ThatchPitches', WHERE WHAT IT READS IS OF BULK AT MOST 1048576: true; the input reads as it did. -/
def thatchPitchesUptoRow : OpenClaim := { program := "ytjokpangacahgaa", sum := "e71db3f6db0d0d3850f658eba3c62c948c10c4d1114836c18af6d7f2dc4cdd0b", func := "sedge/sedgelaw08.ThatchPitches", spec := "thatchPitches", unfollowed := true, recurses := true, apart := false, narrowed := true }
def ThatchPitchesUptoSaid : Prop := thatchPitchesUptoRow.holds Try.pinned (OpenSpec.upto thatchPitchesSpec)

/-- 'sedgelaw08.ThatchRoofs', WHERE WHAT IT READS IS OF BULK AT MOST 1048576: true; the input reads as it did. -/
def thatchRoofsUptoRow : OpenClaim := { program := "ytjokpangacahgaa", sum := "e71db3f6db0d0d3850f658eba3c62c948c10c4d1114836c18af6d7f2dc4cdd0b", func := "sedge/sedgelaw08.ThatchRoofs", spec := "thatchRoofs", unfollowed := true, recurses := true, apart := false, narrowed := true }
def ThatchRoofsUptoSaid : Prop := thatchRoofsUptoRow.holds Try.pinned (OpenSpec.upto thatchRoofsSpec)

/-- 'sedgelaw08.ThatchCoats', WHERE WHAT IT READS IS OF BULK AT MOST 1048576: true; the input reads as it did. -/
def thatchCoatsUptoRow : OpenClaim := { program := "ytjokpangacahgaa", sum := "e71db3f6db0d0d3850f658eba3c62c948c10c4d1114836c18af6d7f2dc4cdd0b", func := "sedge/sedgelaw08.ThatchCoats", spec := "thatchCoats", unfollowed := true, recurses := true, apart := false, narrowed := true }
def ThatchCoatsUptoSaid : Prop := thatchCoatsUptoRow.holds Try.pinned (OpenSpec.upto thatchCoatsSpec)

/-- 'sedgelaw08.ThatchWork', WHERE WHAT IT READS IS OF BULK AT MOST 1048576: true; the input reads as it did. -/
def thatchWorkUptoRow : OpenClaim := { program := "ytjokpangacahgaa", sum := "e71db3f6db0d0d3850f658eba3c62c948c10c4d1114836c18af6d7f2dc4cdd0b", func := "sedge/sedgelaw08.ThatchWork", spec := "thatchWork", unfollowed := true, recurses := true, apart := false, narrowed := true }
def ThatchWorkUptoSaid : Prop := thatchWorkUptoRow.holds Try.pinned (OpenSpec.upto thatchWorkSpec)

/-- 'sedgelaw08.ThatchTriples', WHERE WHAT IT READS IS OF BULK AT MOST 1048576: true; the input reads as it did. -/
def thatchTriplesUptoRow : OpenClaim := { program := "ytjokpangacahgaa", sum := "e71db3f6db0d0d3850f658eba3c62c948c10c4d1114836c18af6d7f2dc4cdd0b", func := "sedge/sedgelaw08.ThatchTriples", spec := "thatchTriples", unfollowed := true, recurses := true, apart := false, narrowed := true }
def ThatchTriplesUptoSaid : Prop := thatchTriplesUptoRow.holds Try.pinned (OpenSpec.upto thatchTriplesSpec)

/-- 'sedgelaw08.ThatchSame', WHERE WHAT IT READS IS OF BULK AT MOST 1048576: true; the input reads as it did. -/
def thatchSameUptoRow : OpenClaim := { program := "ytjokpangacahgaa", sum := "e71db3f6db0d0d3850f658eba3c62c948c10c4d1114836c18af6d7f2dc4cdd0b", func := "sedge/sedgelaw08.ThatchSame", spec := "thatchSame", unfollowed := true, recurses := true, apart := false, narrowed := true }
def ThatchSameUptoSaid : Prop := thatchSameUptoRow.holds Try.pinned (OpenSpec.upto thatchSameSpec)

/-- 'sedgelaw08.ThatchHours', WHERE WHAT IT READS IS OF BULK AT MOST 1048576: true; the input reads as it did. -/
def thatchHoursUptoRow : OpenClaim := { program := "ytjokpangacahgaa", sum := "e71db3f6db0d0d3850f658eba3c62c948c10c4d1114836c18af6d7f2dc4cdd0b", func := "sedge/sedgelaw08.ThatchHours", spec := "thatchHours", unfollowed := true, recurses := true, apart := false, narrowed := true }
def ThatchHoursUptoSaid : Prop := thatchHoursUptoRow.holds Try.pinned (OpenSpec.upto thatchHoursSpec)

/-- 'sedgetop.TopThatch', WHERE WHAT IT READS IS OF BULK AT MOST 1048576: true; the input reads as it did. -/
def topThatchUptoRow : OpenClaim := { program := "ytjokpangacahgaa", sum := "e71db3f6db0d0d3850f658eba3c62c948c10c4d1114836c18af6d7f2dc4cdd0b", func := "sedge/sedgetop.TopThatch", spec := "topThatch", unfollowed := true, recurses := true, apart := false, narrowed := true }
def TopThatchUptoSaid : Prop := topThatchUptoRow.holds Try.pinned (OpenSpec.upto topThatchSpec)

end Rows
end Go.Proofs.Ytjokpangacahgaa
