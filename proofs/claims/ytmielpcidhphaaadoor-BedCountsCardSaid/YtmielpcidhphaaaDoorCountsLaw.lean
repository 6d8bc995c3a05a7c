/- The law BedCounts: walked. -/
import Derived.Test.YtmielpcidhphaaaDoorCounts
import Derived.Test.YtmielpcidhphaaaDoorAwake
namespace Go.Proofs.YtmielpcidhphaaaDoor
open Go.RowKit

set_option maxRecDepth 100000 in
set_option maxHeartbeats 1600000 in
theorem counts_law (W H : Int) (A : Option Addr) (n cap : Nat) (f : Nat → Int) (kind : Int) (w : World) (hn : n ≤ maxLen) (hp : n ≤ 1000 → IsInts w A n f) :
    Gives Tryd.prog 5 #[.agg #[.int .i64 W, .int .i64 H, .slice A n cap], .int .i64 kind] w (.bool true) := by
  have hm : n < 9223372036854775808 := by unfold maxLen at hn; omega
  clear hn
  have AW : Hid (∀ w, Gives Tryd.prog 16 #[] w (.bool true)) := awake_any
  by_cases h : 1000 < n
  · have LG : Hid (∀ w, Gives Tryd.prog 15 #[.agg #[.int .i64 W, .int .i64 H, .slice A n cap]] w (.bool true)) := fun w => (show decide (1000 < n) = true by simpa using h) ▸ large_any W H A n cap w
    clear hp
    go_enter Tryd.func5, Tryd.ntmps5
    go_wp2_with (first | (go_at_call 15; (first | (with_reducible show Calls _ _ _ (Later.val _) _; with_reducible refine Calls.mono (Later.call _ (LG.out _)) ?_) | (with_reducible refine Calls.mono (Gives.calls (LG.out _)) ?_)); rintro e w1 ⟨rfl, y1, rfl⟩) | (go_at_call 16; (first | (with_reducible show Calls _ _ _ (Later.val _) _; with_reducible refine Calls.mono (Later.call _ (AW.out _)) ?_) | (with_reducible refine Calls.mono (Gives.calls (AW.out _)) ?_)); rintro e w1 ⟨rfl, y2, rfl⟩))
    go_ret
    exact ⟨rfl, later_of (by repeat (first | exact Below.refl _ _ | (with_reducible assumption) | apply below_later | apply below_alloc | apply below_drew | apply below_drewN))⟩
  · have LG : Hid (∀ w, Gives Tryd.prog 15 #[.agg #[.int .i64 W, .int .i64 H, .slice A n cap]] w (.bool false)) := fun w => (show decide (1000 < n) = false by simpa using h) ▸ large_any W H A n cap w
    have HP := Lib.hid (hp (by omega))
    have C1 : Hid (∀ w, IsInts w A n f → Gives Tryd.prog 24 #[.agg #[.int .i64 W, .int .i64 H, .slice A n cap], .int .i64 kind] w (.tuple #[.int .i64 (countV W H n f kind), .int .i64 (countE W H n f kind)])) := fun w h1 => Count_any W H n cap A f kind w h1
    have C2 : Hid (∀ w, IsInts w A n f → Gives Tryd.prog 25 #[.agg #[.int .i64 W, .int .i64 H, .slice A n cap], .int .i64 kind] w (.tuple #[.int .i64 (countV W H n f kind), .int .i64 (countE W H n f kind)])) := fun w h1 => rCount_any W H n cap A f kind w (by omega) h1
    generalize countV W H n f kind = cv at *
    generalize countE W H n f kind = ce at *
    clear hp
    go_enter Tryd.func5, Tryd.ntmps5
    go_wp2_with (first | (go_at_call 15; (first | (with_reducible show Calls _ _ _ (Later.val _) _; with_reducible refine Calls.mono (Later.call _ (LG.out _)) ?_) | (with_reducible refine Calls.mono (Gives.calls (LG.out _)) ?_)); rintro e w1 ⟨rfl, y1, rfl⟩) | (go_at_call 24; (first | (with_reducible show Calls _ _ _ (Later.val _) _; with_reducible refine Calls.mono (Later.call _ (C1.out _ (HP.out.later ⟨_, by repeat (first | exact Below.refl _ _ | (with_reducible assumption) | apply below_later | apply below_alloc | apply below_drew | apply below_drewN)⟩))) ?_) | (with_reducible refine Calls.mono (Gives.calls (C1.out _ (HP.out.later ⟨_, by repeat (first | exact Below.refl _ _ | (with_reducible assumption) | apply below_later | apply below_alloc | apply below_drew | apply below_drewN)⟩))) ?_)); rintro e w1 ⟨rfl, y3, rfl⟩) | (go_at_call 25; (first | (with_reducible show Calls _ _ _ (Later.val _) _; with_reducible refine Calls.mono (Later.call _ (C2.out _ (HP.out.later ⟨_, by repeat (first | exact Below.refl _ _ | (with_reducible assumption) | apply below_later | apply below_alloc | apply below_drew | apply below_drewN)⟩))) ?_) | (with_reducible refine Calls.mono (Gives.calls (C2.out _ (HP.out.later ⟨_, by repeat (first | exact Below.refl _ _ | (with_reducible assumption) | apply below_later | apply below_alloc | apply below_drew | apply below_drewN)⟩))) ?_)); rintro e w1 ⟨rfl, y4, rfl⟩) | (go_at_call 16; (first | (with_reducible show Calls _ _ _ (Later.val _) _; with_reducible refine Calls.mono (Later.call _ (AW.out _)) ?_) | (with_reducible refine Calls.mono (Gives.calls (AW.out _)) ?_)); rintro e w1 ⟨rfl, y2, rfl⟩))
    go_ret
    exact ⟨rfl, later_of (by repeat (first | exact Below.refl _ _ | (with_reducible assumption) | apply below_later | apply below_alloc | apply below_drew | apply below_drewN))⟩
end Go.Proofs.YtmielpcidhphaaaDoor
