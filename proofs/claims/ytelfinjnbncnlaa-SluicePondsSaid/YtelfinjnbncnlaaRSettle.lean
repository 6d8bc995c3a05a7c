/- The law's own Settle: walked; what is settled is one thing. -/
import Derived.Test.YtelfinjnbncnlaaSRef
import Derived.Test.YtelfinjnbncnlaaSOver
namespace Go.Proofs.Ytelfinjnbncnlaa
open Go.RowKit

theorem passTo_still {W H : Nat} {S : List Int × List Int} (h : ∀ j, S.1.getD j 0 < 4) : ∀ k, passTo W H S k = S
  | 0 => rfl
  | k + 1 => by
    show stepS W H (passTo W H S k) k = S
    rw [passTo_still h k]
    unfold stepS
    rw [if_neg (by have := h k; omega)]
theorem passes_still {W H n : Nat} {S : List Int × List Int} {k : Nat} (h : ∀ j, (passes W H n S k).1.getD j 0 < 4) : ∀ d, passes W H n S (k + d) = passes W H n S k
  | 0 => rfl
  | d + 1 => by
    show passTo W H (passes W H n S (k + d)) n = _
    rw [passes_still h d]
    exact passTo_still h n
/-- Two settled ends of the same passes are the same. -/
theorem passes_unique {W H n : Nat} {S T U : List Int × List Int} {k l : Nat} (hT : T = passes W H n S k) (hU : U = passes W H n S l) (h1 : ∀ j, T.1.getD j 0 < 4) (h2 : ∀ j, U.1.getD j 0 < 4) : T = U := by
  subst hT hU
  rcases Nat.le_total k l with h | h
  · obtain ⟨d, rfl⟩ := Nat.exists_eq_add_of_le h
    exact (passes_still h1 d).symm
  · obtain ⟨d, rfl⟩ := Nat.exists_eq_add_of_le h
    exact passes_still h2 d
end Go.Proofs.Ytelfinjnbncnlaa
