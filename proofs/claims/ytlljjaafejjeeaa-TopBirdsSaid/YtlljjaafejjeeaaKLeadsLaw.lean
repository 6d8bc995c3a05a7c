/- WaderLeads, walked. -/
import Derived.Test.YtlljjaafejjeeaaKRLead
import Derived.Test.YtlljjaafejjeeaaKAwake
namespace Go.Proofs.Ytlljjaafejjeeaa
open Go.RowKit

theorem Many_nil (A : Option Addr) (n cap : Nat) (w : World) : Gives Try.prog 5 #[.slice A n cap, .slice none 0 0] w (.bool (decide (40 < n))) := by
  by_cases h : 40 < n
  · have D : Hid (decide (40 < n) = true) := decide_eq_true h
    go_enter Try.func5, Try.ntmps5
    go_wp2
    go_ret
    exact ⟨ret_bool (by first | rfl | exact D.out.symm | rw [D.out]), later_of (by repeat (first | exact Below.refl _ _ | (with_reducible assumption) | apply below_later | apply below_alloc | apply below_drew | apply below_drewN))⟩
  · have D : Hid (decide (40 < n) = false) := decide_eq_false h
    go_enter Try.func5, Try.ntmps5
    go_wp2
    go_loopw [5] (fun u wr => u = .int .i64 0 ∧ ∃ x : Later w, wr = x.val) (fun _ _ => 0)
    case atStart => exact ⟨rfl, later_of (by repeat (first | exact Below.refl _ _ | (with_reducible assumption) | apply below_later | apply below_alloc | apply below_drew | apply below_drewN))⟩
    case round =>
      obtain ⟨rfl, x, rfl⟩ := hrel
      go_wp2
      go_ret
      exact ⟨ret_bool (by first | rfl | exact D.out.symm | rw [D.out]), later_of (by repeat (first | exact Below.refl _ _ | (with_reducible assumption) | apply below_later | apply below_alloc | apply below_drew | apply below_drewN))⟩
theorem has_any (n cap : Nat) (s x : Int) (A : Option Addr) (w : World) : Gives Try.prog 46 #[.agg #[.slice A n cap, .int .i64 s], .int .i64 x] w (.bool (inS n x)) := by
  have HR : Hid (inS n x = (decide (0 ≤ x) && decide (x < (n : Int)))) := by
    show inS n x = _
    unfold inS
    simp
  obtain ⟨c0, c1, l0⟩ := box2 w (.slice A n cap) (.int .i64 s) 53
  generalize inS n x = r at *
  by_cases h1 : 0 ≤ x <;> by_cases h2 : x < (n : Int)
  all_goals
    go_enter Try.func46, Try.ntmps46
    go_wp2
    go_ret
    exact ⟨ret_bool (by rw [HR.out]; simp [h1, h2]), later_of (by repeat (first | exact Below.refl _ _ | (with_reducible assumption) | apply below_later | apply below_alloc | apply below_drew | apply below_drewN))⟩
theorem rhas_any (n : Nat) (x : Int) (w : World) : Gives Try.prog 18 #[.int .i64 0, .int .i64 x, .int .i64 ((n : Int) - 1)] w (.bool (inS n x)) := by
  have e : inS n x = (decide (0 ≤ x) && decide (x ≤ (n : Int) - 1)) := by
    unfold inS
    by_cases h1 : 0 ≤ x <;> by_cases h2 : x < (n : Int) <;> simp [h1, h2] <;> omega
  rw [e]
  exact rfrom_any 0 x _ w
end Go.Proofs.Ytlljjaafejjeeaa
