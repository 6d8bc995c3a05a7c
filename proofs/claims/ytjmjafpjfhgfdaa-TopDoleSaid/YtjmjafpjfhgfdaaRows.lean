/-
  No cell of these rows narrows 'for every input' (looked for: loops, veiled, ifaces, maps, wideKeys, modest, calm, conditions, laid).
  DERIVED. THE GIVEN ROWS OF THIS SEAT. 10 by the template 'for every input the law returns true; each argument reads behind the call as it read before'; 0 by the template 'total and deterministic' (their statements: YtjmjafpjfhgfdaaTotals.lean).
  GIVEN WITH THE SEED: the statements are not yours to turn. If you find one false, say at which input.
  Laid BY PROGRAM, IN A SANDBOX (cutbox-rows.mjs): the forced cells as the released guide's own fill.sh prints them over the translation d78ac5aa357ee3ae… (all of the seat's roots in one cut). By AI agents, Wed Nov 11 2026. No macro, syntax, notation, axiom, sorry.
-/
import Derived.Test.YtjmjafpjfhgfdaaChecked
import GoSem.Claim
import GoSem.ClaimJoined
import GoSem.ClaimMapViews
import Derived.JoinedTies
import Derived.KernelRfl
namespace Go.Proofs.Ytjmjafpjfhgfdaa
/- THE CELL 'sum', in the pinned program and in every row, IS THE sha256 OF THE DUMP (.gsa) THAT YtjmjafpjfhgfdaaProg.lean LOADS. Nothing in Lean hashes anything: it is a label: what it is worth is what the hold of that sum in a sandbox is worth. -/
noncomputable def Try.pinned : Pinned := { name := "ytjmjafpjfhgfdaa", sum := "d78ac5aa357ee3aef31ebbf00c83e65b8dd38bf8d301772b39a6d470a6b32589", checked := Try.checked }
namespace Rows
def none {H : Type} : Left H := { results := [], args := [] }

/-- 'sedgelaw07.DoleShares': WHATEVER THE INPUT: true; the input reads as it did. -/
def doleSharesSpec : ChangeSpec := { name := "doleShares", fn := fun _ => fun
  | [d1, d2] => { results := [.lit (.bool true)], args := [d1, d2] }
  | _ => none }
def doleSharesRow : OpenClaim := { program := "ytjmjafpjfhgfdaa", sum := "d78ac5aa357ee3aef31ebbf00c83e65b8dd38bf8d301772b39a6d470a6b32589", func := "sedge/sedgelaw07.DoleShares", spec := "doleShares", unfollowed := true, recurses := true, apart := false }
def DoleSharesSaid : Prop := doleSharesRow.holds Try.pinned (OpenSpec.ofChange doleSharesSpec)

/-- ITS FALSE NEIGHBOUR: 'it returns false'. Refute it at one input. -/
def doleSharesWrong : ChangeSpec := { name := "doleShares", fn := fun _ => fun
  | [d1, d2] => { results := [.lit (.bool false)], args := [d1, d2] }
  | _ => none }
def DoleSharesWrongFalsely : Prop := doleSharesRow.holds Try.pinned (OpenSpec.ofChange doleSharesWrong)

/-- 'sedgelaw07.DoleEnvies': WHATEVER THE INPUT: true; the input reads as it did. -/
def doleEnviesSpec : ChangeSpec := { name := "doleEnvies", fn := fun _ => fun
  | [d1, d2] => { results := [.lit (.bool true)], args := [d1, d2] }
  | _ => none }
def doleEnviesRow : OpenClaim := { program := "ytjmjafpjfhgfdaa", sum := "d78ac5aa357ee3aef31ebbf00c83e65b8dd38bf8d301772b39a6d470a6b32589", func := "sedge/sedgelaw07.DoleEnvies", spec := "doleEnvies", unfollowed := true, recurses := true, apart := false }
def DoleEnviesSaid : Prop := doleEnviesRow.holds Try.pinned (OpenSpec.ofChange doleEnviesSpec)

/-- ITS FALSE NEIGHBOUR: 'it returns false'. Refute it at one input. -/
def doleEnviesWrong : ChangeSpec := { name := "doleEnvies", fn := fun _ => fun
  | [d1, d2] => { results := [.lit (.bool false)], args := [d1, d2] }
  | _ => none }
def DoleEnviesWrongFalsely : Prop := doleEnviesRow.holds Try.pinned (OpenSpec.ofChange doleEnviesWrong)

/-- 'sedgelaw07.DolePicks': WHATEVER THE INPUT: true; the input reads as it did. -/
def dolePicksSpec : ChangeSpec := { name := "dolePicks", fn := fun _ => fun
  | [d1, d2] => { results := [.lit (.bool true)], args := [d1, d2] }
  | _ => none }
def dolePicksRow : OpenClaim := { program := "ytjmjafpjfhgfdaa", sum := "d78ac5aa357ee3aef31ebbf00c83e65b8dd38bf8d301772b39a6d470a6b32589", func := "sedge/sedgelaw07.DolePicks", spec := "dolePicks", unfollowed := true, recurses := true, apart := false }
def DolePicksSaid : Prop := dolePicksRow.holds Try.pinned (OpenSpec.ofChange dolePicksSpec)

/-- ITS FALSE NEIGHBOUR: 'it returns false'. Refute it at one input. -/
def dolePicksWrong : ChangeSpec := { name := "dolePicks", fn := fun _ => fun
  | [d1, d2] => { results := [.lit (.bool false)], args := [d1, d2] }
  | _ => none }
def DolePicksWrongFalsely : Prop := dolePicksRow.holds Try.pinned (OpenSpec.ofChange dolePicksWrong)

/-- 'sedgelaw07.DoleCircles': WHATEVER THE INPUT: true; the input reads as it did. -/
def doleCirclesSpec : ChangeSpec := { name := "doleCircles", fn := fun _ => fun
  | [d1, d2, d3] => { results := [.lit (.bool true)], args := [d1, d2, d3] }
  | _ => none }
def doleCirclesRow : OpenClaim := { program := "ytjmjafpjfhgfdaa", sum := "d78ac5aa357ee3aef31ebbf00c83e65b8dd38bf8d301772b39a6d470a6b32589", func := "sedge/sedgelaw07.DoleCircles", spec := "doleCircles", unfollowed := true, recurses := true, apart := false }
def DoleCirclesSaid : Prop := doleCirclesRow.holds Try.pinned (OpenSpec.ofChange doleCirclesSpec)

/-- ITS FALSE NEIGHBOUR: 'it returns false'. Refute it at one input. -/
def doleCirclesWrong : ChangeSpec := { name := "doleCircles", fn := fun _ => fun
  | [d1, d2, d3] => { results := [.lit (.bool false)], args := [d1, d2, d3] }
  | _ => none }
def DoleCirclesWrongFalsely : Prop := doleCirclesRow.holds Try.pinned (OpenSpec.ofChange doleCirclesWrong)

/-- 'sedgelaw07.DoleGives': WHATEVER THE INPUT: true; the input reads as it did. -/
def doleGivesSpec : ChangeSpec := { name := "doleGives", fn := fun _ => fun
  | [d] => { results := [.lit (.bool true)], args := [d] }
  | _ => none }
def doleGivesRow : OpenClaim := { program := "ytjmjafpjfhgfdaa", sum := "d78ac5aa357ee3aef31ebbf00c83e65b8dd38bf8d301772b39a6d470a6b32589", func := "sedge/sedgelaw07.DoleGives", spec := "doleGives", unfollowed := true, recurses := true, apart := false }
def DoleGivesSaid : Prop := doleGivesRow.holds Try.pinned (OpenSpec.ofChange doleGivesSpec)

/-- ITS FALSE NEIGHBOUR: 'it returns false'. Refute it at one input. -/
def doleGivesWrong : ChangeSpec := { name := "doleGives", fn := fun _ => fun
  | [d] => { results := [.lit (.bool false)], args := [d] }
  | _ => none }
def DoleGivesWrongFalsely : Prop := doleGivesRow.holds Try.pinned (OpenSpec.ofChange doleGivesWrong)

/-- 'sedgelaw07.DoleHalves': WHATEVER THE INPUT: true; the input reads as it did. -/
def doleHalvesSpec : ChangeSpec := { name := "doleHalves", fn := fun _ => fun
  | [d1, d2] => { results := [.lit (.bool true)], args := [d1, d2] }
  | _ => none }
def doleHalvesRow : OpenClaim := { program := "ytjmjafpjfhgfdaa", sum := "d78ac5aa357ee3aef31ebbf00c83e65b8dd38bf8d301772b39a6d470a6b32589", func := "sedge/sedgelaw07.DoleHalves", spec := "doleHalves", unfollowed := true, recurses := true, apart := false }
def DoleHalvesSaid : Prop := doleHalvesRow.holds Try.pinned (OpenSpec.ofChange doleHalvesSpec)

/-- ITS FALSE NEIGHBOUR: 'it returns false'. Refute it at one input. -/
def doleHalvesWrong : ChangeSpec := { name := "doleHalves", fn := fun _ => fun
  | [d1, d2] => { results := [.lit (.bool false)], args := [d1, d2] }
  | _ => none }
def DoleHalvesWrongFalsely : Prop := doleHalvesRow.holds Try.pinned (OpenSpec.ofChange doleHalvesWrong)

/-- 'sedgelaw07.DoleBetters': WHATEVER THE INPUT: true; the input reads as it did. -/
def doleBettersSpec : ChangeSpec := { name := "doleBetters", fn := fun _ => fun
  | [d1, d2, d3] => { results := [.lit (.bool true)], args := [d1, d2, d3] }
  | _ => none }
def doleBettersRow : OpenClaim := { program := "ytjmjafpjfhgfdaa", sum := "d78ac5aa357ee3aef31ebbf00c83e65b8dd38bf8d301772b39a6d470a6b32589", func := "sedge/sedgelaw07.DoleBetters", spec := "doleBetters", unfollowed := true, recurses := true, apart := false }
def DoleBettersSaid : Prop := doleBettersRow.holds Try.pinned (OpenSpec.ofChange doleBettersSpec)

/-- ITS FALSE NEIGHBOUR: 'it returns false'. Refute it at one input. -/
def doleBettersWrong : ChangeSpec := { name := "doleBetters", fn := fun _ => fun
  | [d1, d2, d3] => { results := [.lit (.bool false)], args := [d1, d2, d3] }
  | _ => none }
def DoleBettersWrongFalsely : Prop := doleBettersRow.holds Try.pinned (OpenSpec.ofChange doleBettersWrong)

/-- 'sedgelaw07.DoleTurns': WHATEVER THE INPUT: true; the input reads as it did. -/
def doleTurnsSpec : ChangeSpec := { name := "doleTurns", fn := fun _ => fun
  | [d1, d2] => { results := [.lit (.bool true)], args := [d1, d2] }
  | _ => none }
def doleTurnsRow : OpenClaim := { program := "ytjmjafpjfhgfdaa", sum := "d78ac5aa357ee3aef31ebbf00c83e65b8dd38bf8d301772b39a6d470a6b32589", func := "sedge/sedgelaw07.DoleTurns", spec := "doleTurns", unfollowed := true, recurses := true, apart := false }
def DoleTurnsSaid : Prop := doleTurnsRow.holds Try.pinned (OpenSpec.ofChange doleTurnsSpec)

/-- ITS FALSE NEIGHBOUR: 'it returns false'. Refute it at one input. -/
def doleTurnsWrong : ChangeSpec := { name := "doleTurns", fn := fun _ => fun
  | [d1, d2] => { results := [.lit (.bool false)], args := [d1, d2] }
  | _ => none }
def DoleTurnsWrongFalsely : Prop := doleTurnsRow.holds Try.pinned (OpenSpec.ofChange doleTurnsWrong)

/-- 'sedgelaw07.DoleAll': WHATEVER THE INPUT: true; the input reads as it did. -/
def doleAllSpec : ChangeSpec := { name := "doleAll", fn := fun _ => fun
  | [d1, d2] => { results := [.lit (.bool true)], args := [d1, d2] }
  | _ => none }
def doleAllRow : OpenClaim := { program := "ytjmjafpjfhgfdaa", sum := "d78ac5aa357ee3aef31ebbf00c83e65b8dd38bf8d301772b39a6d470a6b32589", func := "sedge/sedgelaw07.DoleAll", spec := "doleAll", unfollowed := true, recurses := true, apart := false }
def DoleAllSaid : Prop := doleAllRow.holds Try.pinned (OpenSpec.ofChange doleAllSpec)

/-- ITS FALSE NEIGHBOUR: 'it returns false'. Refute it at one input. -/
def doleAllWrong : ChangeSpec := { name := "doleAll", fn := fun _ => fun
  | [d1, d2] => { results := [.lit (.bool false)], args := [d1, d2] }
  | _ => none }
def DoleAllWrongFalsely : Prop := doleAllRow.holds Try.pinned (OpenSpec.ofChange doleAllWrong)

/-- 'sedgetop.TopDole': WHATEVER THE INPUT: true; the input reads as it did. -/
def topDoleSpec : ChangeSpec := { name := "topDole", fn := fun _ => fun
  | [d] => { results := [.lit (.bool true)], args := [d] }
  | _ => none }
def topDoleRow : OpenClaim := { program := "ytjmjafpjfhgfdaa", sum := "d78ac5aa357ee3aef31ebbf00c83e65b8dd38bf8d301772b39a6d470a6b32589", func := "sedge/sedgetop.TopDole", spec := "topDole", unfollowed := true, recurses := true, apart := false }
def TopDoleSaid : Prop := topDoleRow.holds Try.pinned (OpenSpec.ofChange topDoleSpec)

/-- ITS FALSE NEIGHBOUR: 'it returns false'. Refute it at one input. -/
def topDoleWrong : ChangeSpec := { name := "topDole", fn := fun _ => fun
  | [d] => { results := [.lit (.bool false)], args := [d] }
  | _ => none }
def TopDoleWrongFalsely : Prop := topDoleRow.holds Try.pinned (OpenSpec.ofChange topDoleWrong)

/- THE SECOND FORM. 'bulk': how many values and letters a reading holds, each counted each time it is reached (what is shared counts as often as it is met; a slice's spare places count too). A statement '..UptoSaid' is the law's where the arguments, and the package variables that the reading takes, are together of bulk at most 1048576: NARROWER than '..Said'. Prove '..Said' where nothing that the law and all that it calls make is longer than what came in: it says more and counts as full. Else prove '..UptoSaid'. A law counts once. -/
mutual
def uptoBulk {H : Type} : DataW H → Nat
  | .lit (.string bytes) => bytes.length + 1
  | .lit _ => 1
  | .nil => 1
  | .ptr d => uptoBulk d + 1
  | .slice elems spare => uptoBulkAll elems + uptoBulkAll spare + 1
  | .agg parts => uptoBulkAll parts + 1
  | .iface _ d => uptoBulk d + 1
  | .map entries => uptoBulkEntries entries + 1
  | .held _ => 1
def uptoBulkAll {H : Type} : List (DataW H) → Nat
  | [] => 0
  | d :: r => uptoBulk d + uptoBulkAll r
def uptoBulkEntries {H : Type} : List (Lit × DataW H) → Nat
  | [] => 0
  | x :: r => uptoBulkEntry x + uptoBulkEntries r
def uptoBulkEntry {H : Type} : Lit × DataW H → Nat
  | (.string bytes, d) => bytes.length + uptoBulk d + 1
  | (_, d) => uptoBulk d + 1
 end
def uptoSmall : (H : Type) → List (DataW H) → Bool := fun _ ds => decide (uptoBulkAll ds ≤ 1048576)
def OpenSpec.upto (s : _root_.Go.ChangeSpec) : _root_.Go.OpenSpec := { _root_.Go.OpenSpec.ofChange s with cond := some uptoSmall }

/-- 'sedgelaw07.DoleShares', WHERE WHAT IT READS IS OF BULK AT MOST 1048576: true; the input reads as it did. -/
def doleSharesUptoRow : OpenClaim := { program := "ytjmjafpjfhgfdaa", sum := "d78ac5aa357ee3aef31ebbf00c83e65b8dd38bf8d301772b39a6d470a6b32589", func := "sedge/sedgelaw07.DoleShares", spec := "doleShares", unfollowed := true, recurses := true, apart := false, narrowed := true }
def DoleSharesUptoSaid : Prop := doleSharesUptoRow.holds Try.pinned (OpenSpec.upto doleSharesSpec)

/-- 'sedgelaw07.DoleEnvies', WHERE WHAT IT READS IS OF BULK AT MOST 1048576: true; the input reads as it did. -/
def doleEnviesUptoRow : OpenClaim := { program := "ytjmjafpjfhgfdaa", sum := "d78ac5aa357ee3aef31ebbf00c83e65b8dd38bf8d301772b39a6d470a6b32589", func := "sedge/sedgelaw07.DoleEnvies", spec := "doleEnvies", unfollowed := true, recurses := true, apart := false, narrowed := true }
def DoleEnviesUptoSaid : Prop := doleEnviesUptoRow.holds Try.pinned (OpenSpec.upto doleEnviesSpec)

/-- 'sedgelaw07.DolePicks', WHERE WHAT IT READS IS OF BULK AT MOST 1048576: true; the input reads as it did. -/
def dolePicksUptoRow : OpenClaim := { program := "ytjmjafpjfhgfdaa", sum := "d78ac5aa357ee3aef31ebbf00c83e65b8dd38bf8d301772b39a6d470a6b32589", func := "sedge/sedgelaw07.DolePicks", spec := "dolePicks", unfollowed := true, recurses := true, apart := false, narrowed := true }
def DolePicksUptoSaid : Prop := dolePicksUptoRow.holds Try.pinned (OpenSpec.upto dolePicksSpec)

/-- 'sedgelaw07.DoleCircles', WHERE WHAT IT READS IS OF BULK AT MOST 1048576: true; the input reads as it did. -/
def doleCirclesUptoRow : OpenClaim := { program := "ytjmjafpjfhgfdaa", sum := "d78ac5aa357ee3aef31ebbf00c83e65b8dd38bf8d301772b39a6d470a6b32589", func := "sedge/sedgelaw07.DoleCircles", spec := "doleCircles", unfollowed := true, recurses := true, apart := false, narrowed := true }
def DoleCirclesUptoSaid : Prop := doleCirclesUptoRow.holds Try.pinned (OpenSpec.upto doleCirclesSpec)

/-- 'sedgelaw07.DoleGives', WHERE WHAT IT READS IS OF BULK AT MOST 1048576: true; the input reads as it did. -/
def doleGivesUptoRow : OpenClaim := { program := "ytjmjafpjfhgfdaa", sum := "d78ac5aa357ee3aef31ebbf00c83e65b8dd38bf8d301772b39a6d470a6b32589", func := "sedge/sedgelaw07.DoleGives", spec := "doleGives", unfollowed := true, recurses := true, apart := false, narrowed := true }
def DoleGivesUptoSaid : Prop := doleGivesUptoRow.holds Try.pinned (OpenSpec.upto doleGivesSpec)

/-- 'sedgelaw07.DoleHalves', WHERE WHAT IT READS IS OF BULK AT MOST 1048576: true; the input reads as it did. -/
def doleHalvesUptoRow : OpenClaim := { program := "ytjmjafpjfhgfdaa", sum := "d78ac5aa357ee3aef31ebbf00c83e65b8dd38bf8d301772b39a6d470a6b32589", func := "sedge/sedgelaw07.DoleHalves", spec := "doleHalves", unfollowed := true, recurses := true, apart := false, narrowed := true }
def DoleHalvesUptoSaid : Prop := doleHalvesUptoRow.holds Try.pinned (OpenSpec.upto doleHalvesSpec)

/-- 'sedgelaw07.DoleBetters', WHERE WHAT IT READS IS OF BULK AT MOST 1048576: true; the input reads as it did. -/
def doleBettersUptoRow : OpenClaim := { program := "ytjmjafpjfhgfdaa", sum := "d78ac5aa357ee3aef31ebbf00c83e65b8dd38bf8d301772b39a6d470a6b32589", func := "sedge/sedgelaw07.DoleBetters", spec := "doleBetters", unfollowed := true, recurses := true, apart := false, narrowed := true }
def DoleBettersUptoSaid : Prop := doleBettersUptoRow.holds Try.pinned (OpenSpec.upto doleBettersSpec)

/-- 'sedgelaw07.DoleTurns', WHERE WHAT IT READS IS OF BULK AT MOST 1048576: true; the input reads as it did. -/
def doleTurnsUptoRow : OpenClaim := { program := "ytjmjafpjfhgfdaa", sum := "d78ac5aa357ee3aef31ebbf00c83e65b8dd38bf8d301772b39a6d470a6b32589", func := "sedge/sedgelaw07.DoleTurns", spec := "doleTurns", unfollowed := true, recurses := true, apart := false, narrowed := true }
def DoleTurnsUptoSaid : Prop := doleTurnsUptoRow.holds Try.pinned (OpenSpec.upto doleTurnsSpec)

/-- 'sedgelaw07.DoleAll', WHERE WHAT IT READS IS OF BULK AT MOST 1048576: true; the input reads as it did. -/
def doleAllUptoRow : OpenClaim := { program := "ytjmjafpjfhgfdaa", sum := "d78ac5aa357ee3aef31ebbf00c83e65b8dd38bf8d301772b39a6d470a6b32589", func := "sedge/sedgelaw07.DoleAll", spec := "doleAll", unfollowed := true, recurses := true, apart := false, narrowed := true }
def DoleAllUptoSaid : Prop := doleAllUptoRow.holds Try.pinned (OpenSpec.upto doleAllSpec)

/-- 'sedgetop.TopDole', WHERE WHAT IT READS IS OF BULK AT MOST 1048576: true; the input reads as it did. -/
def topDoleUptoRow : OpenClaim := { program := "ytjmjafpjfhgfdaa", sum := "d78ac5aa357ee3aef31ebbf00c83e65b8dd38bf8d301772b39a6d470a6b32589", func := "sedge/sedgetop.TopDole", spec := "topDole", unfollowed := true, recurses := true, apart := false, narrowed := true }
def TopDoleUptoSaid : Prop := topDoleUptoRow.holds Try.pinned (OpenSpec.upto topDoleSpec)

end Rows
end Go.Proofs.Ytjmjafpjfhgfdaa
