/- wale.lowest and the document's ratio. -/
import Derived.Test.YtlljjaafejjeeaaWFollow
import Derived.IntWalk
namespace Go.Proofs.Ytlljjaafejjeeaa
open Go.RowKit

theorem tdiv_bd {a : Int} {g : Nat} (h : -1000000000 ≤ a ∧ a ≤ 1000000000) : -1000000000 ≤ a.tdiv g ∧ a.tdiv g ≤ 1000000000 := by
  have h1 : (a.tdiv g).natAbs ≤ a.natAbs := by
    rw [Int.natAbs_tdiv]
    exact Nat.div_le_self _ _
  omega
theorem gcd_step {a b : Nat} : Nat.gcd b (a % b) = Nat.gcd a b := by
  rw [Nat.gcd_comm a b, Nat.gcd_rec b a, Nat.gcd_comm]
end Go.Proofs.Ytlljjaafejjeeaa
