/- Contracts of the number functions of package rod. -/
import Derived.Test.YtamhhbkjgfhfoaaDoorBase
namespace Go.Proofs.YtamhhbkjgfhfoaaDoor
open Go.RowKit

def crossI (ax ay bx b_y cx cy : Int) : Int := (bx - ax) * (cy - ay) - (b_y - ay) * (cx - ax)
def dotI (ax ay bx b_y cx cy : Int) : Int := (bx - ax) * (cx - ax) + (b_y - ay) * (cy - ay)
def inR (x : Int) : Bool := decide (-1000 ≤ x) && decide (x ≤ 1000)
def signI (n : Int) : Int := if 0 < n then 1 else if n < 0 then -1 else 0
def absI (n : Int) : Int := if n < 0 then -n else n
def onSideB (ax ay bx b_y cx cy : Int) : Bool := decide (crossI ax ay bx b_y cx cy = 0) && decide (dotI cx cy ax ay bx b_y ≤ 0)
/-- A post in range. -/
def InRange (x y : Int) : Prop := -1000 ≤ x ∧ x ≤ 1000 ∧ -1000 ≤ y ∧ y ≤ 1000

theorem crossI_bd {ax ay bx b_y cx cy : Int} (ha : InRange ax ay) (hb : InRange bx b_y) (hc : InRange cx cy) : -8000000 ≤ crossI ax ay bx b_y cx cy ∧ crossI ax ay bx b_y cx cy ≤ 8000000 := by
  unfold InRange at *
  have b1 := mul_bd (a := bx - ax) (b := cy - ay) 2000 2000 (by omega) (by omega) (by omega) (by omega)
  have b2 := mul_bd (a := b_y - ay) (b := cx - ax) 2000 2000 (by omega) (by omega) (by omega) (by omega)
  unfold crossI
  omega
theorem dotI_bd {ax ay bx b_y cx cy : Int} (ha : InRange ax ay) (hb : InRange bx b_y) (hc : InRange cx cy) : -8000000 ≤ dotI ax ay bx b_y cx cy ∧ dotI ax ay bx b_y cx cy ≤ 8000000 := by
  unfold InRange at *
  have b1 := mul_bd (a := bx - ax) (b := cx - ax) 2000 2000 (by omega) (by omega) (by omega) (by omega)
  have b2 := mul_bd (a := b_y - ay) (b := cy - ay) 2000 2000 (by omega) (by omega) (by omega) (by omega)
  unfold dotI
  omega

theorem below3 (w : World) (a b c : Obj) : Below w.heap.size w (((w.alloc a).alloc b).alloc c) :=
  (((Below.refl _ _).alloc (Nat.le_refl _) _).alloc (by simp) _).alloc (by simp; omega) _

set_option maxHeartbeats 400000 in
theorem cross_any (ax ay bx b_y cx cy : Int) (w : World) (ha : InRange ax ay) (hb : InRange bx b_y) (hc : InRange cx cy) :
    Gives Tryd.prog 39 #[.agg #[.int .i64 ax, .int .i64 ay], .agg #[.int .i64 bx, .int .i64 b_y], .agg #[.int .i64 cx, .int .i64 cy]] w (.int .i64 (crossI ax ay bx b_y cx cy)) := by
  obtain ⟨h1, h2, h3, h4⟩ := ha
  obtain ⟨h5, h6, h7, h8⟩ := hb
  obtain ⟨h9, h10, h11, h12⟩ := hc
  obtain ⟨b3, b4⟩ := mul_bd (a := bx - ax) (b := cy - ay) 2000 2000 (by omega) (by omega) (by omega) (by omega)
  obtain ⟨b5, b6⟩ := mul_bd (a := b_y - ay) (b := cx - ax) 2000 2000 (by omega) (by omega) (by omega) (by omega)
  go_enter Tryd.func39, Tryd.ntmps39
  go_wp2
  go_ret
  exact ⟨rfl, later_of (below3 _ _ _ _)⟩

set_option maxHeartbeats 400000 in
theorem dot_any (ax ay bx b_y cx cy : Int) (w : World) (ha : InRange ax ay) (hb : InRange bx b_y) (hc : InRange cx cy) :
    Gives Tryd.prog 60 #[.agg #[.int .i64 ax, .int .i64 ay], .agg #[.int .i64 bx, .int .i64 b_y], .agg #[.int .i64 cx, .int .i64 cy]] w (.int .i64 (dotI ax ay bx b_y cx cy)) := by
  obtain ⟨h1, h2, h3, h4⟩ := ha
  obtain ⟨h5, h6, h7, h8⟩ := hb
  obtain ⟨h9, h10, h11, h12⟩ := hc
  obtain ⟨b3, b4⟩ := mul_bd (a := bx - ax) (b := cx - ax) 2000 2000 (by omega) (by omega) (by omega) (by omega)
  obtain ⟨b5, b6⟩ := mul_bd (a := b_y - ay) (b := cy - ay) 2000 2000 (by omega) (by omega) (by omega) (by omega)
  go_enter Tryd.func60, Tryd.ntmps60
  go_wp2
  go_ret
  exact ⟨rfl, later_of (below3 _ _ _ _)⟩

theorem sign_any (n : Int) (w : World) : Gives Tryd.prog 70 #[.int .i64 n] w (.int .i64 (signI n)) := by
  go_enter Tryd.func70, Tryd.ntmps70
  go_wp2
  all_goals
    go_ret
    exact ⟨ret_int (by unfold signI; omega), later_of (Below.refl _ _)⟩

theorem abs_any (n : Int) (w : World) (h0 : -1000000000000 ≤ n) (h1 : n ≤ 1000000000000) : Gives Tryd.prog 33 #[.int .i64 n] w (.int .i64 (absI n)) := by
  go_enter Tryd.func33, Tryd.ntmps33
  go_wp2
  all_goals
    go_ret
    exact ⟨ret_int (by unfold absI; omega), later_of (Below.refl _ _)⟩

set_option maxHeartbeats 400000 in
theorem inRange_any (x y : Int) (w : World) :
    Gives Tryd.prog 29 #[.agg #[.int .i64 x, .int .i64 y]] w (.bool (inR x && inR y)) := by
  by_cases h1 : -1000 ≤ x <;> by_cases h2 : x ≤ 1000 <;> by_cases h3 : -1000 ≤ y <;> by_cases h4 : y ≤ 1000
  all_goals first
    | (exfalso; omega)
    | (go_enter Tryd.func29, Tryd.ntmps29
       go_wp2
       go_ret
       exact ⟨ret_bool (by simp [inR]; omega), later_of ((Below.refl _ _).alloc (Nat.le_refl _) _)⟩)

set_option maxHeartbeats 800000 in
theorem onSide_any (ax ay bx b_y cx cy : Int) (w : World) (ha : InRange ax ay) (hb : InRange bx b_y) (hc : InRange cx cy) :
    Gives Tryd.prog 46 #[.agg #[.int .i64 ax, .int .i64 ay], .agg #[.int .i64 bx, .int .i64 b_y], .agg #[.int .i64 cx, .int .i64 cy]] w (.bool (onSideB ax ay bx b_y cx cy)) := by
  by_cases h : crossI ax ay bx b_y cx cy = 0
  · have h' : (crossI ax ay bx b_y cx cy == 0) = true := by simpa using h
    have HH := Lib.hid h
    clear h
    go_enter Tryd.func46, Tryd.ntmps46
    go_wp2_with (first | (go_at_call 39; (first | (with_reducible show Calls _ _ _ (Later.val _) _; with_reducible refine Calls.mono (Later.call _ (cross_any _ _ _ _ _ _ _ ha hb hc)) ?_) | (with_reducible refine Calls.mono (Gives.calls (cross_any _ _ _ _ _ _ _ ha hb hc)) ?_)); rintro e w1 ⟨rfl, x1, rfl⟩) | (go_at_call 60; (first | (with_reducible show Calls _ _ _ (Later.val _) _; with_reducible refine Calls.mono (Later.call _ (dot_any _ _ _ _ _ _ _ hc ha hb)) ?_) | (with_reducible refine Calls.mono (Gives.calls (dot_any _ _ _ _ _ _ _ hc ha hb)) ?_)); rintro e w1 ⟨rfl, x2, rfl⟩))
    go_ret
    exact ⟨ret_bool (by simp [onSideB, HH.out]), later_of (by repeat (first | exact Below.refl _ _ | (with_reducible assumption) | apply below_later | apply below_alloc | apply below_drew | apply below_drewN))⟩
  · have h' : (crossI ax ay bx b_y cx cy == 0) = false := by simpa using h
    have HH := Lib.hid h
    clear h
    go_enter Tryd.func46, Tryd.ntmps46
    go_wp2_with (first | (go_at_call 39; (first | (with_reducible show Calls _ _ _ (Later.val _) _; with_reducible refine Calls.mono (Later.call _ (cross_any _ _ _ _ _ _ _ ha hb hc)) ?_) | (with_reducible refine Calls.mono (Gives.calls (cross_any _ _ _ _ _ _ _ ha hb hc)) ?_)); rintro e w1 ⟨rfl, x1, rfl⟩))
    go_ret
    exact ⟨ret_bool (by simp [onSideB, HH.out]), later_of (by repeat (first | exact Below.refl _ _ | (with_reducible assumption) | apply below_later | apply below_alloc | apply below_drew | apply below_drewN))⟩

def meetB (ax ay bx b_y cx cy dx dy : Int) : Bool :=
  (onSideB ax ay bx b_y cx cy || onSideB ax ay bx b_y dx dy || onSideB cx cy dx dy ax ay || onSideB cx cy dx dy bx b_y) ||
  (decide (signI (crossI ax ay bx b_y cx cy) * signI (crossI ax ay bx b_y dx dy) < 0) && decide (signI (crossI cx cy dx dy ax ay) * signI (crossI cx cy dx dy bx b_y) < 0))

theorem sign_mul_bd (a b : Int) : -1 ≤ signI a * signI b ∧ signI a * signI b ≤ 1 := by
  have := mul_bd (a := signI a) (b := signI b) 1 1 (by unfold signI; omega) (by unfold signI; omega) (by unfold signI; omega) (by unfold signI; omega)
  omega

set_option maxRecDepth 100000 in
set_option maxHeartbeats 1600000 in
theorem sidesMeet_any (ax ay bx b_y cx cy dx dy : Int) (w : World) (ha : InRange ax ay) (hb : InRange bx b_y) (hc : InRange cx cy) (hd : InRange dx dy) :
    Gives Tryd.prog 62 #[.agg #[.int .i64 ax, .int .i64 ay], .agg #[.int .i64 bx, .int .i64 b_y], .agg #[.int .i64 cx, .int .i64 cy], .agg #[.int .i64 dx, .int .i64 dy]] w (.bool (meetB ax ay bx b_y cx cy dx dy)) := by
  obtain ⟨m1, m2⟩ := sign_mul_bd (crossI ax ay bx b_y cx cy) (crossI ax ay bx b_y dx dy)
  obtain ⟨m3, m4⟩ := sign_mul_bd (crossI cx cy dx dy ax ay) (crossI cx cy dx dy bx b_y)
  cases h1 : onSideB ax ay bx b_y cx cy <;> cases h2 : onSideB ax ay bx b_y dx dy <;> cases h3 : onSideB cx cy dx dy ax ay <;> cases h4 : onSideB cx cy dx dy bx b_y
  case false.false.false.false =>
    have H : meetB ax ay bx b_y cx cy dx dy = (decide (signI (crossI ax ay bx b_y cx cy) * signI (crossI ax ay bx b_y dx dy) < 0) && decide (signI (crossI cx cy dx dy ax ay) * signI (crossI cx cy dx dy bx b_y) < 0)) := by
      simp [meetB, h1, h2, h3, h4]
    rw [H]
    clear H
    cases h5 : decide (signI (crossI ax ay bx b_y cx cy) * signI (crossI ax ay bx b_y dx dy) < 0)
    · go_enter Tryd.func62, Tryd.ntmps62
      go_wp2_with (first | (go_at_call 46; (first | (with_reducible show Calls _ _ _ (Later.val _) _; with_reducible refine Calls.mono (Later.call _ (onSide_any _ _ _ _ _ _ _ (by assumption) (by assumption) (by assumption))) ?_) | (with_reducible refine Calls.mono (Gives.calls (onSide_any _ _ _ _ _ _ _ (by assumption) (by assumption) (by assumption))) ?_)); rintro e w1 ⟨rfl, x1, rfl⟩))
      first | (with_reducible show Code.wp _ _ _ _ (Later.val _); refine wp_region_later_at _ (by kernel_rfl) (by kernel_rfl) ?_) | refine wp_region_later (by kernel_rfl) (by kernel_rfl) ?_
      repeat (go_big_quiet_step ((first | (go_at_call 39; (with_reducible refine Later.call _ (cross_any _ _ _ _ _ _ _ (by assumption) (by assumption) (by assumption)))) | (go_at_call 70; (with_reducible refine Later.call _ (sign_any _ _))))))
      refine wpQuiet_nil ?_
      intro y
      go_wp2
      go_ret
      exact ⟨ret_bool (by simp), later_of (by repeat (first | exact Below.refl _ _ | (with_reducible assumption) | apply below_later | apply below_alloc | apply below_drew | apply below_drewN))⟩
    · go_enter Tryd.func62, Tryd.ntmps62
      go_wp2_with (first | (go_at_call 46; (first | (with_reducible show Calls _ _ _ (Later.val _) _; with_reducible refine Calls.mono (Later.call _ (onSide_any _ _ _ _ _ _ _ (by assumption) (by assumption) (by assumption))) ?_) | (with_reducible refine Calls.mono (Gives.calls (onSide_any _ _ _ _ _ _ _ (by assumption) (by assumption) (by assumption))) ?_)); rintro e w1 ⟨rfl, x1, rfl⟩))
      first | (with_reducible show Code.wp _ _ _ _ (Later.val _); refine wp_region_later_at _ (by kernel_rfl) (by kernel_rfl) ?_) | refine wp_region_later (by kernel_rfl) (by kernel_rfl) ?_
      repeat (go_big_quiet_step ((first | (go_at_call 39; (with_reducible refine Later.call _ (cross_any _ _ _ _ _ _ _ (by assumption) (by assumption) (by assumption)))) | (go_at_call 70; (with_reducible refine Later.call _ (sign_any _ _))))))
      refine wpQuiet_nil ?_
      intro y
      go_wp2
      go_ret
      exact ⟨ret_bool (by simp), later_of (by repeat (first | exact Below.refl _ _ | (with_reducible assumption) | apply below_later | apply below_alloc | apply below_drew | apply below_drewN))⟩
  all_goals
    have H : meetB ax ay bx b_y cx cy dx dy = true := by simp [meetB, h1, h2, h3, h4]
    rw [H]
    clear H
    go_enter Tryd.func62, Tryd.ntmps62
    go_wp2_with (first | (go_at_call 46; (first | (with_reducible show Calls _ _ _ (Later.val _) _; with_reducible refine Calls.mono (Later.call _ (onSide_any _ _ _ _ _ _ _ (by assumption) (by assumption) (by assumption))) ?_) | (with_reducible refine Calls.mono (Gives.calls (onSide_any _ _ _ _ _ _ _ (by assumption) (by assumption) (by assumption))) ?_)); rintro e w1 ⟨rfl, x1, rfl⟩))
    go_ret
    exact ⟨rfl, later_of (by repeat (first | exact Below.refl _ _ | (with_reducible assumption) | apply below_later | apply below_alloc | apply below_drew | apply below_drewN))⟩
end Go.Proofs.YtamhhbkjgfhfoaaDoor
