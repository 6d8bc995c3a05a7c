/- The law RodFormats: walked. -/
import Derived.Test.YticjjikodignfaaDoorFirst
import Derived.Test.YticjjikodignfaaDoorTextAny
namespace Go.Proofs.YticjjikodignfaaDoor
open Go.RowKit

theorem length_below {w w' : World} (h : w.var? Tryd.prog "sedge/rod.lengthUnits" = some lengthCells) (hb : Below w.heap.size w w') : w'.var? Tryd.prog "sedge/rod.lengthUnits" = some lengthCells := later_var h ⟨w', hb⟩

set_option maxHeartbeats 800000 in
theorem r_area_text (n : Int) (w : World) (hn : 0 ≤ n) (gn : n ≤ 1000000000) : Gives Tryd.prog 53 #[.int .i64 n] w (strV (textL aB rB pB 160 40 n)) := by
  have T := Lib.hid (fun w => text_any 97 114 112 160 40 n w (by omega) (by omega) (by omega) (by omega) hn gn)
  go_enter Tryd.func53, Tryd.ntmps53
  go_wp2_with (go_at_call 89; (first | (with_reducible show Calls _ _ _ (Later.val _) _; with_reducible refine Calls.mono (Later.call _ (T.out _)) ?_) | (with_reducible refine Calls.mono (Gives.calls (T.out _)) ?_)); rintro e w1 ⟨rfl, y, rfl⟩)
  go_ret
  exact ⟨rfl, later_of (by repeat (first | exact Below.refl _ _ | (with_reducible assumption) | apply below_later | apply below_alloc | apply below_drew | apply below_drewN))⟩
set_option maxHeartbeats 800000 in
theorem r_length_text (n : Int) (w : World) (hn : 0 ≤ n) (gn : n ≤ 1000000000) : Gives Tryd.prog 54 #[.int .i64 n] w (strV (textL fB cB lB 1000 100 n)) := by
  have T := Lib.hid (fun w => text_any 102 99 108 1000 100 n w (by omega) (by omega) (by omega) (by omega) hn gn)
  go_enter Tryd.func54, Tryd.ntmps54
  go_wp2_with (go_at_call 89; (first | (with_reducible show Calls _ _ _ (Later.val _) _; with_reducible refine Calls.mono (Later.call _ (T.out _)) ?_) | (with_reducible refine Calls.mono (Gives.calls (T.out _)) ?_)); rintro e w1 ⟨rfl, y, rfl⟩)
  go_ret
  exact ⟨rfl, later_of (by repeat (first | exact Below.refl _ _ | (with_reducible assumption) | apply below_later | apply below_alloc | apply below_drew | apply below_drewN))⟩
set_option maxHeartbeats 800000 in
theorem r_formatArea_any (n : Int) (w : World) : Gives Tryd.prog 17 #[.int .i64 n] w (.tuple #[strV (formatT aB rB pB 160 40 n), .int .i64 (formatE n)]) := by
  unfold formatT formatE
  by_cases hn : 0 ≤ n
  · by_cases gn : n ≤ 1000000000
    · rw [if_pos ⟨hn, gn⟩, if_pos ⟨hn, gn⟩]
      have T := Lib.hid (fun w => r_area_text n w hn gn)
      go_enter Tryd.func17, Tryd.ntmps17
      go_wp2_with (go_at_call 53; (first | (with_reducible show Calls _ _ _ (Later.val _) _; with_reducible refine Calls.mono (Later.call _ (T.out _)) ?_) | (with_reducible refine Calls.mono (Gives.calls (T.out _)) ?_)); rintro e w1 ⟨rfl, y, rfl⟩)
      go_ret2
      exact ⟨rfl, later_of (by repeat (first | exact Below.refl _ _ | (with_reducible assumption) | apply below_later | apply below_alloc | apply below_drew | apply below_drewN))⟩
    · rw [if_neg (by omega), if_neg (by omega)]
      go_enter Tryd.func17, Tryd.ntmps17
      go_wp2
      go_ret2
      exact ⟨rfl, later_of (by repeat (first | exact Below.refl _ _ | (with_reducible assumption) | apply below_later | apply below_alloc | apply below_drew | apply below_drewN))⟩
  · rw [if_neg (by omega), if_neg (by omega)]
    go_enter Tryd.func17, Tryd.ntmps17
    go_wp2
    go_ret2
    exact ⟨rfl, later_of (by repeat (first | exact Below.refl _ _ | (with_reducible assumption) | apply below_later | apply below_alloc | apply below_drew | apply below_drewN))⟩
set_option maxHeartbeats 800000 in
theorem r_formatLength_any (n : Int) (w : World) : Gives Tryd.prog 19 #[.int .i64 n] w (.tuple #[strV (formatT fB cB lB 1000 100 n), .int .i64 (formatE n)]) := by
  unfold formatT formatE
  by_cases hn : 0 ≤ n
  · by_cases gn : n ≤ 1000000000
    · rw [if_pos ⟨hn, gn⟩, if_pos ⟨hn, gn⟩]
      have T := Lib.hid (fun w => r_length_text n w hn gn)
      go_enter Tryd.func19, Tryd.ntmps19
      go_wp2_with (go_at_call 54; (first | (with_reducible show Calls _ _ _ (Later.val _) _; with_reducible refine Calls.mono (Later.call _ (T.out _)) ?_) | (with_reducible refine Calls.mono (Gives.calls (T.out _)) ?_)); rintro e w1 ⟨rfl, y, rfl⟩)
      go_ret2
      exact ⟨rfl, later_of (by repeat (first | exact Below.refl _ _ | (with_reducible assumption) | apply below_later | apply below_alloc | apply below_drew | apply below_drewN))⟩
    · rw [if_neg (by omega), if_neg (by omega)]
      go_enter Tryd.func19, Tryd.ntmps19
      go_wp2
      go_ret2
      exact ⟨rfl, later_of (by repeat (first | exact Below.refl _ _ | (with_reducible assumption) | apply below_later | apply below_alloc | apply below_drew | apply below_drewN))⟩
  · rw [if_neg (by omega), if_neg (by omega)]
    go_enter Tryd.func19, Tryd.ntmps19
    go_wp2
    go_ret2
    exact ⟨rfl, later_of (by repeat (first | exact Below.refl _ _ | (with_reducible assumption) | apply below_later | apply below_alloc | apply below_drew | apply below_drewN))⟩

set_option maxRecDepth 100000 in
set_option maxHeartbeats 3200000 in
theorem rodFormats_any (n : Int) (w : World) (hu : Units w) (hl : w.var? Tryd.prog "sedge/rod.lengthUnits" = some lengthCells) :
    Gives Tryd.prog 3 #[.int .i64 n] w (.bool true) := by
  have Hu := Lib.hid hu
  have Hl := Lib.hid hl
  clear hu hl
  have C1 : Hid (∀ w', Below w.heap.size w w' → Gives Tryd.prog 16 #[.int .i64 n] w' (.tuple #[.string ⟨(formatT aB rB pB 160 40 n).toArray⟩, .int .i64 (formatE n)])) := fun w' hb => formatArea_any n w' (Hu.out.below hb).tab (Hu.out.below hb).area
  have C2 : Hid (∀ w', Gives Tryd.prog 17 #[.int .i64 n] w' (.tuple #[.string ⟨(formatT aB rB pB 160 40 n).toArray⟩, .int .i64 (formatE n)])) := fun w' => r_formatArea_any n w'
  have C3 : Hid (∀ w', Below w.heap.size w w' → Gives Tryd.prog 18 #[.int .i64 n] w' (.tuple #[.string ⟨(formatT fB cB lB 1000 100 n).toArray⟩, .int .i64 (formatE n)])) := fun w' hb => formatLength_any n w' (Hu.out.below hb).tab (length_below Hl.out hb)
  have C4 : Hid (∀ w', Gives Tryd.prog 19 #[.int .i64 n] w' (.tuple #[.string ⟨(formatT fB cB lB 1000 100 n).toArray⟩, .int .i64 (formatE n)])) := fun w' => r_formatLength_any n w'
  generalize formatT aB rB pB 160 40 n = s1 at *
  generalize formatT fB cB lB 1000 100 n = s2 at *
  generalize formatE n = e0 at *
  go_enter Tryd.func3, Tryd.ntmps3
  go_wp2_with (first | (go_at_call 16; refine Calls.mono (C1.out _ (by repeat (first | exact Below.refl _ _ | (with_reducible assumption) | apply below_later | apply below_alloc | apply below_drew | apply below_drewN))).calls ?_; rintro e w1 ⟨rfl, y1, rfl⟩) | (go_at_call 17; (first | (with_reducible show Calls _ _ _ (Later.val _) _; with_reducible refine Calls.mono (Later.call _ (C2.out _)) ?_) | (with_reducible refine Calls.mono (Gives.calls (C2.out _)) ?_)); rintro e w1 ⟨rfl, y2, rfl⟩) | (go_at_call 18; refine Calls.mono (C3.out _ (by repeat (first | exact Below.refl _ _ | (with_reducible assumption) | apply below_later | apply below_alloc | apply below_drew | apply below_drewN))).calls ?_; rintro e w1 ⟨rfl, y3, rfl⟩) | (go_at_call 19; (first | (with_reducible show Calls _ _ _ (Later.val _) _; with_reducible refine Calls.mono (Later.call _ (C4.out _)) ?_) | (with_reducible refine Calls.mono (Gives.calls (C4.out _)) ?_)); rintro e w1 ⟨rfl, y4, rfl⟩) | (go_at_call 20; refine Calls.mono (first_any _ (Hu.out.below (by repeat (first | exact Below.refl _ _ | (with_reducible assumption) | apply below_later | apply below_alloc | apply below_drew | apply below_drewN)))).calls ?_; rintro e w1 ⟨rfl, y5, rfl⟩))
  go_ret
  exact ⟨rfl, later_of (by repeat (first | exact Below.refl _ _ | (with_reducible assumption) | apply below_later | apply below_alloc | apply below_drew | apply below_drewN))⟩
end Go.Proofs.YticjjikodignfaaDoor
