/- The law BedIsWay: walked. -/
import Derived.Test.YtmielpcidhphaaaDoorRIsWay
import Derived.Test.YtmielpcidhphaaaDoorAwake
namespace Go.Proofs.YtmielpcidhphaaaDoor
open Go.RowKit

set_option maxRecDepth 100000 in
set_option maxHeartbeats 1600000 in
theorem isWay_law (W H : Int) (A B : Option Addr) (n cap m c2 : Nat) (f g : Nat → Int) (w : World) (hn : n ≤ maxLen) (hm : m ≤ maxLen) (hp : n ≤ 1000 → IsInts w A n f) (hl : m ≤ 1000 → IsInts w B m g) :
    Gives Tryd.prog 9 #[.agg #[.int .i64 W, .int .i64 H, .slice A n cap], .slice B m c2] w (.bool true) := by
  have hm1 : n < 9223372036854775808 := by unfold maxLen at hn; omega
  have hm2 : m < 9223372036854775808 := by unfold maxLen at hm; omega
  clear hn hm
  have AW : Hid (∀ w, Gives Tryd.prog 16 #[] w (.bool true)) := awake_any
  by_cases h : 1000 < n
  · have LG : Hid (∀ w, Gives Tryd.prog 15 #[.agg #[.int .i64 W, .int .i64 H, .slice A n cap]] w (.bool true)) := fun w => (show decide (1000 < n) = true by simpa using h) ▸ large_any W H A n cap w
    clear hp hl
    go_enter Tryd.func9, Tryd.ntmps9
    go_wp2_with (first | (go_at_call 15; (first | (with_reducible show Calls _ _ _ (Later.val _) _; with_reducible refine Calls.mono (Later.call _ (LG.out _)) ?_) | (with_reducible refine Calls.mono (Gives.calls (LG.out _)) ?_)); rintro e w1 ⟨rfl, y1, rfl⟩) | (go_at_call 16; (first | (with_reducible show Calls _ _ _ (Later.val _) _; with_reducible refine Calls.mono (Later.call _ (AW.out _)) ?_) | (with_reducible refine Calls.mono (Gives.calls (AW.out _)) ?_)); rintro e w1 ⟨rfl, y2, rfl⟩))
    go_ret
    exact ⟨rfl, later_of (by repeat (first | exact Below.refl _ _ | (with_reducible assumption) | apply below_later | apply below_alloc | apply below_drew | apply below_drewN))⟩
  · have LG : Hid (∀ w, Gives Tryd.prog 15 #[.agg #[.int .i64 W, .int .i64 H, .slice A n cap]] w (.bool false)) := fun w => (show decide (1000 < n) = false by simpa using h) ▸ large_any W H A n cap w
    by_cases h2 : 1000 < m
    · have h2' : (1000 : Int) < (m : Int) := by omega
      clear hp hl
      go_enter Tryd.func9, Tryd.ntmps9
      go_wp2_with (first | (go_at_call 15; (first | (with_reducible show Calls _ _ _ (Later.val _) _; with_reducible refine Calls.mono (Later.call _ (LG.out _)) ?_) | (with_reducible refine Calls.mono (Gives.calls (LG.out _)) ?_)); rintro e w1 ⟨rfl, y1, rfl⟩) | (go_at_call 16; (first | (with_reducible show Calls _ _ _ (Later.val _) _; with_reducible refine Calls.mono (Later.call _ (AW.out _)) ?_) | (with_reducible refine Calls.mono (Gives.calls (AW.out _)) ?_)); rintro e w1 ⟨rfl, y2, rfl⟩))
      go_ret
      exact ⟨rfl, later_of (by repeat (first | exact Below.refl _ _ | (with_reducible assumption) | apply below_later | apply below_alloc | apply below_drew | apply below_drewN))⟩
    · have h2' : ¬ (1000 : Int) < (m : Int) := by omega
      have HP := Lib.hid (hp (by omega))
      have HL := Lib.hid (hl (by omega))
      have C1 : Hid (∀ w, IsInts w A n f → IsInts w B m g → Gives Tryd.prog 49 #[.agg #[.int .i64 W, .int .i64 H, .slice A n cap], .slice B m c2] w (.tuple #[.bool (wayV W H n f m g), .int .i64 (wayE W H n f)])) := fun w h1 h2 => isWay_any W H n cap m c2 A B f g w h1 h2 (by omega)
      have C2 : Hid (∀ w, IsInts w A n f → IsInts w B m g → Gives Tryd.prog 50 #[.agg #[.int .i64 W, .int .i64 H, .slice A n cap], .slice B m c2] w (.tuple #[.bool (wayV W H n f m g), .int .i64 (wayE W H n f)])) := fun w h1 h2 => rIsWay_any W H n cap m c2 A B f g w h1 h2 (by omega)
      generalize wayV W H n f m g = cv at *
      generalize wayE W H n f = ce at *
      clear hp hl
      go_enter Tryd.func9, Tryd.ntmps9
      go_wp2_with (first | (go_at_call 15; (first | (with_reducible show Calls _ _ _ (Later.val _) _; with_reducible refine Calls.mono (Later.call _ (LG.out _)) ?_) | (with_reducible refine Calls.mono (Gives.calls (LG.out _)) ?_)); rintro e w1 ⟨rfl, y1, rfl⟩) | (go_at_call 49; (first | (with_reducible show Calls _ _ _ (Later.val _) _; with_reducible refine Calls.mono (Later.call _ (C1.out _ (HP.out.later ⟨_, by repeat (first | exact Below.refl _ _ | (with_reducible assumption) | apply below_later | apply below_alloc | apply below_drew | apply below_drewN)⟩) (HL.out.later ⟨_, by repeat (first | exact Below.refl _ _ | (with_reducible assumption) | apply below_later | apply below_alloc | apply below_drew | apply below_drewN)⟩))) ?_) | (with_reducible refine Calls.mono (Gives.calls (C1.out _ (HP.out.later ⟨_, by repeat (first | exact Below.refl _ _ | (with_reducible assumption) | apply below_later | apply below_alloc | apply below_drew | apply below_drewN)⟩) (HL.out.later ⟨_, by repeat (first | exact Below.refl _ _ | (with_reducible assumption) | apply below_later | apply below_alloc | apply below_drew | apply below_drewN)⟩))) ?_)); rintro e w1 ⟨rfl, y3, rfl⟩) | (go_at_call 50; (first | (with_reducible show Calls _ _ _ (Later.val _) _; with_reducible refine Calls.mono (Later.call _ (C2.out _ (HP.out.later ⟨_, by repeat (first | exact Below.refl _ _ | (with_reducible assumption) | apply below_later | apply below_alloc | apply below_drew | apply below_drewN)⟩) (HL.out.later ⟨_, by repeat (first | exact Below.refl _ _ | (with_reducible assumption) | apply below_later | apply below_alloc | apply below_drew | apply below_drewN)⟩))) ?_) | (with_reducible refine Calls.mono (Gives.calls (C2.out _ (HP.out.later ⟨_, by repeat (first | exact Below.refl _ _ | (with_reducible assumption) | apply below_later | apply below_alloc | apply below_drew | apply below_drewN)⟩) (HL.out.later ⟨_, by repeat (first | exact Below.refl _ _ | (with_reducible assumption) | apply below_later | apply below_alloc | apply below_drew | apply below_drewN)⟩))) ?_)); rintro e w1 ⟨rfl, y4, rfl⟩) | (go_at_call 16; (first | (with_reducible show Calls _ _ _ (Later.val _) _; with_reducible refine Calls.mono (Later.call _ (AW.out _)) ?_) | (with_reducible refine Calls.mono (Gives.calls (AW.out _)) ?_)); rintro e w1 ⟨rfl, y2, rfl⟩))
      go_ret
      exact ⟨rfl, later_of (by repeat (first | exact Below.refl _ _ | (with_reducible assumption) | apply below_later | apply below_alloc | apply below_drew | apply below_drewN))⟩
end Go.Proofs.YtmielpcidhphaaaDoor
