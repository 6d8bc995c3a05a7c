/- The document's place, day and from: walked. -/
import Derived.Test.YtlljjaafejjeeaaKLead
namespace Go.Proofs.Ytlljjaafejjeeaa
open Go.RowKit
theorem rfrom_any (a x b : Int) (w : World) : Gives Try.prog 18 #[.int .i64 a, .int .i64 x, .int .i64 b] w (.bool (decide (a ≤ x) && decide (x ≤ b))) := by
  by_cases h1 : a ≤ x <;> by_cases h2 : x ≤ b
  all_goals
    go_enter Try.func18, Try.ntmps18
    go_wp2
    go_ret
    exact ⟨ret_bool (by simp [h1, h2]), later_of (by repeat (first | exact Below.refl _ _ | (with_reducible assumption) | apply below_later | apply below_alloc | apply below_drew | apply below_drewN))⟩
theorem rplace_any (x y : Int) (w : World) : Gives Try.prog 16 #[.int .i64 x, .int .i64 y] w (.bool ((decide (-1000 ≤ x) && decide (x ≤ 1000)) && (decide (-1000 ≤ y) && decide (y ≤ 1000)))) := by
  have F1 := Lib.hid fun w' => rfrom_any (-1000) x 1000 w'
  have F2 := Lib.hid fun w' => rfrom_any (-1000) y 1000 w'
  generalize (decide (-1000 ≤ x) && decide (x ≤ 1000)) = r1 at *
  generalize (decide (-1000 ≤ y) && decide (y ≤ 1000)) = r2 at *
  rcases r1 with _ | _
  all_goals
    go_enter Try.func16, Try.ntmps16
    go_wp2_with (first | (go_at_call 18; with_reducible refine Calls.mono (Gives.calls (F1.out _)) ?_; rintro e w1 ⟨rfl, z, rfl⟩) | (go_at_call 18; with_reducible refine Calls.mono (Gives.calls (F2.out _)) ?_; rintro e w1 ⟨rfl, z, rfl⟩))
    go_ret
    exact ⟨ret_bool (by simp), later_of (by repeat (first | exact Below.refl _ _ | (with_reducible assumption) | apply below_later | apply below_alloc | apply below_drew | apply below_drewN))⟩
theorem rday_any (x : Int) (w : World) : Gives Try.prog 17 #[.int .i64 x] w (.bool (decide (0 ≤ x) && decide (x ≤ 10000))) := by
  have F1 := Lib.hid fun w' => rfrom_any 0 x 10000 w'
  go_enter Try.func17, Try.ntmps17
  go_wp2_with (first | (go_at_call 18; with_reducible refine Calls.mono (Gives.calls (F1.out _)) ?_; rintro e w1 ⟨rfl, z, rfl⟩))
  go_ret
  exact ⟨rfl, later_of (by repeat (first | exact Below.refl _ _ | (with_reducible assumption) | apply below_later | apply below_alloc | apply below_drew | apply below_drewN))⟩
end Go.Proofs.Ytlljjaafejjeeaa
