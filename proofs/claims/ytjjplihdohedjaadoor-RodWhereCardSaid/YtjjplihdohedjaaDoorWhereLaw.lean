/- The law RodWhere: walked. -/
import Derived.Test.YtjjplihdohedjaaDoorFirst
import Derived.Test.YtjjplihdohedjaaDoorRefWhere
namespace Go.Proofs.YtjjplihdohedjaaDoor
open Go.RowKit

set_option maxRecDepth 100000 in
set_option maxHeartbeats 6400000 in
theorem rodWhere_any (A : Option Addr) (n cap : Nat) (px py : Nat → Int) (ax ay : Int) (w : World) (hu : Units w) (hn : n ≤ maxLen) (hp : n ≤ 60 → IsPosts w A n px py) :
    Gives Tryd.prog 7 #[.slice A n cap, .agg #[.int .i64 ax, .int .i64 ay]] w (.bool true) := by
  have Bz : Below w.heap.size w (w.alloc (.cells #[.int .i64 ax, .int .i64 ay] 37)) := below_alloc (Below.refl _ _)
  have Hu := Lib.hid (hu.below Bz)
  have hm : n < 9223372036854775808 := by unfold maxLen at hn; omega
  have c5 : (w.alloc (.cells #[.int .i64 ax, .int .i64 ay] 37)).cell? ⟨w.heap.size, 0, none⟩ = some (.int .i64 ax) := by simp
  have c6 : (w.alloc (.cells #[.int .i64 ax, .int .i64 ay] 37)).cell? ⟨w.heap.size, 1, none⟩ = some (.int .i64 ay) := by simp
  have l5 : w.heap.size < (w.alloc (.cells #[.int .i64 ax, .int .i64 ay] 37)).heap.size := by simp
  clear hu hn
  by_cases h60 : 60 < n
  · clear hp
    go_enter Tryd.func7, Tryd.ntmps7
    go_wp2_with (first | (go_at_call 20; (first | (with_reducible show Calls _ _ _ (Later.val _) _; with_reducible refine Calls.mono (Later.call _ (first_any _ Hu.out)) ?_) | (with_reducible refine Calls.mono (Gives.calls (first_any _ Hu.out)) ?_)); rintro e w1 ⟨rfl, y1, rfl⟩))
    go_ret
    exact ⟨rfl, later_of (by repeat (first | exact Below.refl _ _ | (with_reducible assumption) | apply below_later | apply below_alloc | apply below_drew | apply below_drewN))⟩
  · have Hp := Lib.hid ((hp (by omega)).later ⟨_, Bz⟩)
    clear hp
    cases hv : validB n px py
    · have A1 := Lib.hid (show whereR n px py ax ay = .tuple #[.int .i64 0, .int .i64 10] by rw [whereR, hv]; rfl)
      have A2 := Lib.hid (show leftR n px py = .tuple #[.bool false, .int .i64 10] by rw [leftR, hv]; rfl)
      have A3 := Lib.hid (show convexR n px py = .tuple #[.bool false, .int .i64 10] by rw [convexR, hv]; rfl)
      clear hv
      go_enter Tryd.func7, Tryd.ntmps7
      go_wp2_with (first | (go_at_call 37; (first | (with_reducible show Calls _ _ _ (Later.val _) _; with_reducible refine Calls.mono (Later.call _ ((A1.out ▸ where_any _ _ _ px py _ _ _ (by first | exact Hp.out | exact Hp.out.later _)))) ?_) | (with_reducible refine Calls.mono (Gives.calls ((A1.out ▸ where_any _ _ _ px py _ _ _ (by first | exact Hp.out | exact Hp.out.later _)))) ?_)); rintro e w1 ⟨rfl, y1, rfl⟩) | (go_at_call 38; (first | (with_reducible show Calls _ _ _ (Later.val _) _; with_reducible refine Calls.mono (Later.call _ ((A1.out ▸ r_Where_any _ _ _ px py _ _ _ (by first | exact Hp.out | exact Hp.out.later _)))) ?_) | (with_reducible refine Calls.mono (Gives.calls ((A1.out ▸ r_Where_any _ _ _ px py _ _ _ (by first | exact Hp.out | exact Hp.out.later _)))) ?_)); rintro e w1 ⟨rfl, y2, rfl⟩) | (go_at_call 39; (first | (with_reducible show Calls _ _ _ (Later.val _) _; with_reducible refine Calls.mono (Later.call _ ((A2.out ▸ left_any _ _ _ px py _ (by first | exact Hp.out | exact Hp.out.later _)))) ?_) | (with_reducible refine Calls.mono (Gives.calls ((A2.out ▸ left_any _ _ _ px py _ (by first | exact Hp.out | exact Hp.out.later _)))) ?_)); rintro e w1 ⟨rfl, y3, rfl⟩) | (go_at_call 40; (first | (with_reducible show Calls _ _ _ (Later.val _) _; with_reducible refine Calls.mono (Later.call _ ((A3.out ▸ convex_any _ _ _ px py _ (by first | exact Hp.out | exact Hp.out.later _)))) ?_) | (with_reducible refine Calls.mono (Gives.calls ((A3.out ▸ convex_any _ _ _ px py _ (by first | exact Hp.out | exact Hp.out.later _)))) ?_)); rintro e w1 ⟨rfl, y4, rfl⟩) | (go_at_call 20; (first | (with_reducible show Calls _ _ _ (Later.val _) _; with_reducible refine Calls.mono (Later.call _ (first_any _ (Hu.out.below (Later.ok _)))) ?_) | (with_reducible refine Calls.mono (Gives.calls (first_any _ (Hu.out.below (Later.ok _)))) ?_)); rintro e w1 ⟨rfl, y6, rfl⟩))
      go_ret
      exact ⟨rfl, later_of (by repeat (first | exact Below.refl _ _ | (with_reducible assumption) | apply below_later | apply below_alloc | apply below_drew | apply below_drewN))⟩
    · obtain ⟨h1, h2, h3⟩ := valid_bounds hv
      obtain ⟨b, off, rfl, hq⟩ := Hp.out.at_ (by omega)
      have H3 := Lib.hid h3
      have Hq := Lib.hid hq
      have A1 := Lib.hid (show whereR n px py ax ay = .tuple #[.int .i64 (whereI n px py ax ay), .int .i64 0] by rw [whereR, hv]; rfl)
      have A2 := Lib.hid (show leftR n px py = .tuple #[.bool (decide (0 < areaI n px py)), .int .i64 0] by rw [leftR, hv]; rfl)
      have A3 := Lib.hid (show convexR n px py = .tuple #[.bool (convexB n px py), .int .i64 0] by rw [convexR, hv]; rfl)
      have L1 := Lib.hid (fun (w' : Later (w.alloc (.cells #[.int .i64 ax, .int .i64 ay] 37))) => r_left_any b off n cap px py w'.val h1 h2 (Hq.out.later w') H3.out)
      have L2 := Lib.hid (fun (w' : Later (w.alloc (.cells #[.int .i64 ax, .int .i64 ay] 37))) => r_convex_any b off n cap px py w'.val h1 h2 (Hq.out.later w') H3.out)
      clear hv h3 hq
      generalize decide (0 < areaI n px py) = B1 at A2 L1
      generalize convexB n px py = B2 at A3 L2
      generalize whereI n px py ax ay = B3 at A1
      cases B1 <;> cases B2
      all_goals
        go_enter Tryd.func7, Tryd.ntmps7
        go_wp2_with (first | (go_at_call 37; (first | (with_reducible show Calls _ _ _ (Later.val _) _; with_reducible refine Calls.mono (Later.call _ ((A1.out ▸ where_any _ _ _ px py _ _ _ (by first | exact Hp.out | exact Hp.out.later _)))) ?_) | (with_reducible refine Calls.mono (Gives.calls ((A1.out ▸ where_any _ _ _ px py _ _ _ (by first | exact Hp.out | exact Hp.out.later _)))) ?_)); rintro e w1 ⟨rfl, y1, rfl⟩) | (go_at_call 38; (first | (with_reducible show Calls _ _ _ (Later.val _) _; with_reducible refine Calls.mono (Later.call _ ((A1.out ▸ r_Where_any _ _ _ px py _ _ _ (by first | exact Hp.out | exact Hp.out.later _)))) ?_) | (with_reducible refine Calls.mono (Gives.calls ((A1.out ▸ r_Where_any _ _ _ px py _ _ _ (by first | exact Hp.out | exact Hp.out.later _)))) ?_)); rintro e w1 ⟨rfl, y2, rfl⟩) | (go_at_call 39; (first | (with_reducible show Calls _ _ _ (Later.val _) _; with_reducible refine Calls.mono (Later.call _ ((A2.out ▸ left_any _ _ _ px py _ (by first | exact Hp.out | exact Hp.out.later _)))) ?_) | (with_reducible refine Calls.mono (Gives.calls ((A2.out ▸ left_any _ _ _ px py _ (by first | exact Hp.out | exact Hp.out.later _)))) ?_)); rintro e w1 ⟨rfl, y3, rfl⟩) | (go_at_call 40; (first | (with_reducible show Calls _ _ _ (Later.val _) _; with_reducible refine Calls.mono (Later.call _ ((A3.out ▸ convex_any _ _ _ px py _ (by first | exact Hp.out | exact Hp.out.later _)))) ?_) | (with_reducible refine Calls.mono (Gives.calls ((A3.out ▸ convex_any _ _ _ px py _ (by first | exact Hp.out | exact Hp.out.later _)))) ?_)); rintro e w1 ⟨rfl, y4, rfl⟩) | (go_at_call 20; (first | (with_reducible show Calls _ _ _ (Later.val _) _; with_reducible refine Calls.mono (Later.call _ (first_any _ (Hu.out.below (Later.ok _)))) ?_) | (with_reducible refine Calls.mono (Gives.calls (first_any _ (Hu.out.below (Later.ok _)))) ?_)); rintro e w1 ⟨rfl, y6, rfl⟩) | (go_at_call 41; (first | (with_reducible show Calls _ _ _ (Later.val _) _; with_reducible refine Calls.mono (Later.call _ (L1.out _)) ?_) | (with_reducible refine Calls.mono (Gives.calls (L1.out _)) ?_)); rintro e w1 ⟨rfl, y7, rfl⟩) | (go_at_call 42; (first | (with_reducible show Calls _ _ _ (Later.val _) _; with_reducible refine Calls.mono (Later.call _ (L2.out _)) ?_) | (with_reducible refine Calls.mono (Gives.calls (L2.out _)) ?_)); rintro e w1 ⟨rfl, y8, rfl⟩))
        go_ret
        exact ⟨rfl, later_of (by repeat (first | exact Below.refl _ _ | (with_reducible assumption) | apply below_later | apply below_alloc | apply below_drew | apply below_drewN))⟩
end Go.Proofs.YtjjplihdohedjaaDoor
