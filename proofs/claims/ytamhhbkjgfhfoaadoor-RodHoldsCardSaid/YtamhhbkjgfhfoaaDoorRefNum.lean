/- Contracts of the number functions of the document's own answer for layer 1. -/
import Derived.Test.YtamhhbkjgfhfoaaDoorNum
namespace Go.Proofs.YtamhhbkjgfhfoaaDoor
open Go.RowKit

set_option maxHeartbeats 400000 in
theorem r_turn_any (ax ay bx b_y cx cy : Int) (w : World) (ha : InRange ax ay) (hb : InRange bx b_y) (hc : InRange cx cy) :
    Gives Tryd.prog 24 #[.agg #[.int .i64 ax, .int .i64 ay], .agg #[.int .i64 bx, .int .i64 b_y], .agg #[.int .i64 cx, .int .i64 cy]] w (.int .i64 (crossI ax ay bx b_y cx cy)) := by
  obtain ⟨h1, h2, h3, h4⟩ := ha
  obtain ⟨h5, h6, h7, h8⟩ := hb
  obtain ⟨h9, h10, h11, h12⟩ := hc
  obtain ⟨b3, b4⟩ := mul_bd (a := bx - ax) (b := cy - ay) 2000 2000 (by omega) (by omega) (by omega) (by omega)
  obtain ⟨b5, b6⟩ := mul_bd (a := b_y - ay) (b := cx - ax) 2000 2000 (by omega) (by omega) (by omega) (by omega)
  go_enter Tryd.func24, Tryd.ntmps24
  go_wp2
  go_ret
  exact ⟨rfl, later_of (by repeat (first | exact Below.refl _ _ | (with_reducible assumption) | apply below_later | apply below_alloc | apply below_drew | apply below_drewN))⟩

set_option maxHeartbeats 800000 in
theorem r_ranged_any (x y : Int) (w : World) :
    Gives Tryd.prog 23 #[.agg #[.int .i64 x, .int .i64 y]] w (.bool (inR x && inR y)) := by
  by_cases h1 : -1000 ≤ x <;> by_cases h2 : x ≤ 1000 <;> by_cases h3 : -1000 ≤ y <;> by_cases h4 : y ≤ 1000
  all_goals first
    | (exfalso; omega)
    | (go_enter Tryd.func23, Tryd.ntmps23
       go_wp2
       go_ret
       exact ⟨ret_bool (by simp [inR]; omega), later_of (by repeat (first | exact Below.refl _ _ | (with_reducible assumption) | apply below_later | apply below_alloc | apply below_drew | apply below_drewN))⟩)

def onB (px py ax ay bx b_y : Int) : Bool :=
  decide (crossI ax ay bx b_y px py = 0) && (decide (min ax bx ≤ px) && decide (px ≤ max ax bx) && decide (min ay b_y ≤ py) && decide (py ≤ max ay b_y))

def meetR (ax ay bx b_y cx cy dx dy : Int) : Bool :=
  (onB ax ay cx cy dx dy || onB bx b_y cx cy dx dy || onB cx cy ax ay bx b_y || onB dx dy ax ay bx b_y) ||
  (decide (signI (crossI ax ay bx b_y cx cy) * signI (crossI ax ay bx b_y dx dy) < 0) && decide (signI (crossI cx cy dx dy ax ay) * signI (crossI cx cy dx dy bx b_y) < 0))

end Go.Proofs.YtamhhbkjgfhfoaaDoor
