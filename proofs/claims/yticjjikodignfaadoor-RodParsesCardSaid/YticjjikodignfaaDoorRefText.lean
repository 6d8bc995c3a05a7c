/- The document's own texts. -/
import Derived.Test.YticjjikodignfaaDoorFormat
namespace Go.Proofs.YticjjikodignfaaDoor
open Go.RowKit

theorem dec_small (n : Nat) (w : World) (h : n < 10) : Gives Tryd.prog 106 #[.int .i64 n] w (.string ⟨#[(48 + n : Nat).toUInt8]⟩) := by
  have : n = 0 ∨ n = 1 ∨ n = 2 ∨ n = 3 ∨ n = 4 ∨ n = 5 ∨ n = 6 ∨ n = 7 ∨ n = 8 ∨ n = 9 := by omega
  rcases this with rfl | rfl | rfl | rfl | rfl | rfl | rfl | rfl | rfl | rfl
  all_goals
    go_enter Tryd.func106, Tryd.ntmps106
    go_wp2
    go_ret
    exact ⟨rfl, later_of (by repeat (first | exact Below.refl _ _ | (with_reducible assumption) | apply below_later | apply below_alloc | apply below_drew | apply below_drewN))⟩

theorem dec_len : ∀ (k n : Nat), n ≤ k → (Lib.decDigits n).length ≤ k + 1
  | 0, n, h => by
    obtain rfl : n = 0 := by omega
    unfold Lib.decDigits
    simp
  | k + 1, n, h => by
    unfold Lib.decDigits
    split
    · simp
    · have := dec_len k (n / 10) (by omega)
      simp
      omega

end Go.Proofs.YticjjikodignfaaDoor
