/- The document's own Valid. -/
import Derived.Test.YtamhhbkjgfhfoaaDoorRefNum
import Derived.Test.YtamhhbkjgfhfoaaDoorValid
import Derived.Deep.DeepCutAuto
namespace Go.Proofs.YtamhhbkjgfhfoaaDoor
open Go.RowKit

/-- The corner two behind k of n, round about. -/
def nx2 (n k : Nat) : Nat := (k + 2) % n
theorem nx2_lt {n : Nat} (k : Nat) (h : 0 < n) : nx2 n k < n := Nat.mod_lt _ h
theorem nx2_eq (n k : Nat) : ((k : Int) + 2) % (n : Int) = ((nx2 n k : Nat) : Int) := by
  unfold nx2
  rw [Int.natCast_emod]
  rfl

def rFirstB (n : Nat) (px py : Nat → Int) : Bool := allB n fun i => (inR (px i) && inR (py i)) && allB i fun k => !sameXY px py i k
def rPairB (n : Nat) (px py : Nat → Int) (i k : Nat) : Bool := (nx n k == i) || !meetR (px i) (py i) (px (nx n i)) (py (nx n i)) (px k) (py k) (px (nx n k)) (py (nx n k))
def rCornerB (n : Nat) (px py : Nat → Int) (i : Nat) : Bool :=
  (!onB (px (nx2 n i)) (py (nx2 n i)) (px i) (py i) (px (nx n i)) (py (nx n i)) && !onB (px i) (py i) (px (nx n i)) (py (nx n i)) (px (nx2 n i)) (py (nx2 n i))) &&
  allB (n - (i + 2)) fun t => rPairB n px py i (i + 2 + t)
def rValidB (n : Nat) (px py : Nat → Int) : Bool := decide (3 ≤ n) && decide (n ≤ 40) && (rFirstB n px py && allB n (rCornerB n px py))

end Go.Proofs.YtamhhbkjgfhfoaaDoor
