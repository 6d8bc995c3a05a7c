/- Contracts of the number functions of the document's own answer for layer 1. -/
import Derived.Test.YticjjikodignfaaDoorNum
namespace Go.Proofs.YticjjikodignfaaDoor
open Go.RowKit

set_option maxHeartbeats 400000 in
theorem r_turn_any (ax ay bx b_y cx cy : Int) (w : World) (ha : InRange ax ay) (hb : InRange bx b_y) (hc : InRange cx cy) :
    Gives Tryd.prog 78 #[.agg #[.int .i64 ax, .int .i64 ay], .agg #[.int .i64 bx, .int .i64 b_y], .agg #[.int .i64 cx, .int .i64 cy]] w (.int .i64 (crossI ax ay bx b_y cx cy)) := by
  obtain ⟨h1, h2, h3, h4⟩ := ha
  obtain ⟨h5, h6, h7, h8⟩ := hb
  obtain ⟨h9, h10, h11, h12⟩ := hc
  obtain ⟨b3, b4⟩ := mul_bd (a := bx - ax) (b := cy - ay) 2000 2000 (by omega) (by omega) (by omega) (by omega)
  obtain ⟨b5, b6⟩ := mul_bd (a := b_y - ay) (b := cx - ax) 2000 2000 (by omega) (by omega) (by omega) (by omega)
  go_enter Tryd.func78, Tryd.ntmps78
  go_wp2
  go_ret
  exact ⟨rfl, later_of (by repeat (first | exact Below.refl _ _ | (with_reducible assumption) | apply below_later | apply below_alloc | apply below_drew | apply below_drewN))⟩

theorem r_sign_any (n : Int) (w : World) : Gives Tryd.prog 94 #[.int .i64 n] w (.int .i64 (signI n)) := by
  go_enter Tryd.func94, Tryd.ntmps94
  go_wp2
  all_goals
    go_ret
    exact ⟨ret_int (by unfold signI; omega), later_of (by repeat (first | exact Below.refl _ _ | (with_reducible assumption) | apply below_later | apply below_alloc | apply below_drew | apply below_drewN))⟩

set_option maxHeartbeats 800000 in
theorem r_ranged_any (x y : Int) (w : World) :
    Gives Tryd.prog 64 #[.agg #[.int .i64 x, .int .i64 y]] w (.bool (inR x && inR y)) := by
  by_cases h1 : -1000 ≤ x <;> by_cases h2 : x ≤ 1000 <;> by_cases h3 : -1000 ≤ y <;> by_cases h4 : y ≤ 1000
  all_goals first
    | (exfalso; omega)
    | (go_enter Tryd.func64, Tryd.ntmps64
       go_wp2
       go_ret
       exact ⟨ret_bool (by simp [inR]; omega), later_of (by repeat (first | exact Below.refl _ _ | (with_reducible assumption) | apply below_later | apply below_alloc | apply below_drew | apply below_drewN))⟩)

def onB (px py ax ay bx b_y : Int) : Bool :=
  decide (crossI ax ay bx b_y px py = 0) && (decide (min ax bx ≤ px) && decide (px ≤ max ax bx) && decide (min ay b_y ≤ py) && decide (py ≤ max ay b_y))

set_option maxRecDepth 100000 in
set_option maxHeartbeats 1600000 in
theorem r_on_any (px py ax ay bx b_y : Int) (w : World) (hp : InRange px py) (ha : InRange ax ay) (hb : InRange bx b_y) :
    Gives Tryd.prog 65 #[.agg #[.int .i64 px, .int .i64 py], .agg #[.int .i64 ax, .int .i64 ay], .agg #[.int .i64 bx, .int .i64 b_y]] w (.bool (onB px py ax ay bx b_y)) := by
  by_cases h : crossI ax ay bx b_y px py = 0
  · have h' : (crossI ax ay bx b_y px py == 0) = true := by simpa using h
    have HH := Lib.hid h
    clear h
    go_enter Tryd.func65, Tryd.ntmps65
    go_wp2_with (first | (go_at_call 78; (first | (with_reducible show Calls _ _ _ (Later.val _) _; with_reducible refine Calls.mono (Later.call _ (r_turn_any _ _ _ _ _ _ _ ha hb hp)) ?_) | (with_reducible refine Calls.mono (Gives.calls (r_turn_any _ _ _ _ _ _ _ ha hb hp)) ?_)); rintro e w1 ⟨rfl, x1, rfl⟩))
    all_goals
      go_ret
      exact ⟨ret_bool (by rw [Bool.eq_iff_iff]; simp only [onB, HH.out, eq_self, decide_true, Bool.true_and, Bool.and_eq_true, decide_eq_true_eq, Bool.false_eq_true, false_iff, true_iff]; omega), later_of (by repeat (first | exact Below.refl _ _ | (with_reducible assumption) | apply below_later | apply below_alloc | apply below_drew | apply below_drewN))⟩
  · have h' : (crossI ax ay bx b_y px py == 0) = false := by simpa using h
    have HH := Lib.hid h
    clear h
    go_enter Tryd.func65, Tryd.ntmps65
    go_wp2_with (first | (go_at_call 78; (first | (with_reducible show Calls _ _ _ (Later.val _) _; with_reducible refine Calls.mono (Later.call _ (r_turn_any _ _ _ _ _ _ _ ha hb hp)) ?_) | (with_reducible refine Calls.mono (Gives.calls (r_turn_any _ _ _ _ _ _ _ ha hb hp)) ?_)); rintro e w1 ⟨rfl, x1, rfl⟩))
    go_ret
    exact ⟨ret_bool (by simp [onB, HH.out]), later_of (by repeat (first | exact Below.refl _ _ | (with_reducible assumption) | apply below_later | apply below_alloc | apply below_drew | apply below_drewN))⟩

def meetR (ax ay bx b_y cx cy dx dy : Int) : Bool :=
  (onB ax ay cx cy dx dy || onB bx b_y cx cy dx dy || onB cx cy ax ay bx b_y || onB dx dy ax ay bx b_y) ||
  (decide (signI (crossI ax ay bx b_y cx cy) * signI (crossI ax ay bx b_y dx dy) < 0) && decide (signI (crossI cx cy dx dy ax ay) * signI (crossI cx cy dx dy bx b_y) < 0))

set_option maxRecDepth 100000 in
set_option maxHeartbeats 1600000 in
theorem r_meet_any (ax ay bx b_y cx cy dx dy : Int) (w : World) (ha : InRange ax ay) (hb : InRange bx b_y) (hc : InRange cx cy) (hd : InRange dx dy) :
    Gives Tryd.prog 66 #[.agg #[.int .i64 ax, .int .i64 ay], .agg #[.int .i64 bx, .int .i64 b_y], .agg #[.int .i64 cx, .int .i64 cy], .agg #[.int .i64 dx, .int .i64 dy]] w (.bool (meetR ax ay bx b_y cx cy dx dy)) := by
  obtain ⟨m1, m2⟩ := sign_mul_bd (crossI ax ay bx b_y cx cy) (crossI ax ay bx b_y dx dy)
  obtain ⟨m3, m4⟩ := sign_mul_bd (crossI cx cy dx dy ax ay) (crossI cx cy dx dy bx b_y)
  cases h1 : onB ax ay cx cy dx dy <;> cases h2 : onB bx b_y cx cy dx dy <;> cases h3 : onB cx cy ax ay bx b_y <;> cases h4 : onB dx dy ax ay bx b_y
  case false.false.false.false =>
    have H : meetR ax ay bx b_y cx cy dx dy = (decide (signI (crossI ax ay bx b_y cx cy) * signI (crossI ax ay bx b_y dx dy) < 0) && decide (signI (crossI cx cy dx dy ax ay) * signI (crossI cx cy dx dy bx b_y) < 0)) := by
      simp [meetR, h1, h2, h3, h4]
    rw [H]
    clear H
    cases h5 : decide (signI (crossI ax ay bx b_y cx cy) * signI (crossI ax ay bx b_y dx dy) < 0)
    all_goals
      go_enter Tryd.func66, Tryd.ntmps66
      go_wp2_with (first | (go_at_call 65; (first | (with_reducible show Calls _ _ _ (Later.val _) _; with_reducible refine Calls.mono (Later.call _ (r_on_any _ _ _ _ _ _ _ (by assumption) (by assumption) (by assumption))) ?_) | (with_reducible refine Calls.mono (Gives.calls (r_on_any _ _ _ _ _ _ _ (by assumption) (by assumption) (by assumption))) ?_)); rintro e w1 ⟨rfl, x1, rfl⟩))
      first | (with_reducible show Code.wp _ _ _ _ (Later.val _); refine wp_region_later_at _ (by kernel_rfl) (by kernel_rfl) ?_) | refine wp_region_later (by kernel_rfl) (by kernel_rfl) ?_
      repeat (go_big_quiet_step ((first | (go_at_call 78; (with_reducible refine Later.call _ (r_turn_any _ _ _ _ _ _ _ (by assumption) (by assumption) (by assumption)))) | (go_at_call 94; (with_reducible refine Later.call _ (r_sign_any _ _))))))
      refine wpQuiet_nil ?_
      intro y
      go_wp2
      go_ret
      exact ⟨ret_bool (by simp), later_of (by repeat (first | exact Below.refl _ _ | (with_reducible assumption) | apply below_later | apply below_alloc | apply below_drew | apply below_drewN))⟩
  all_goals
    have H : meetR ax ay bx b_y cx cy dx dy = true := by simp [meetR, h1, h2, h3, h4]
    rw [H]
    clear H
    go_enter Tryd.func66, Tryd.ntmps66
    go_wp2_with (first | (go_at_call 65; (first | (with_reducible show Calls _ _ _ (Later.val _) _; with_reducible refine Calls.mono (Later.call _ (r_on_any _ _ _ _ _ _ _ (by assumption) (by assumption) (by assumption))) ?_) | (with_reducible refine Calls.mono (Gives.calls (r_on_any _ _ _ _ _ _ _ (by assumption) (by assumption) (by assumption))) ?_)); rintro e w1 ⟨rfl, x1, rfl⟩))
    go_ret
    exact ⟨rfl, later_of (by repeat (first | exact Below.refl _ _ | (with_reducible assumption) | apply below_later | apply below_alloc | apply below_drew | apply below_drewN))⟩
end Go.Proofs.YticjjikodignfaaDoor
