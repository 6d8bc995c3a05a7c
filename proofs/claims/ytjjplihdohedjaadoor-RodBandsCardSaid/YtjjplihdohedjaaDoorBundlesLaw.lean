/- The law RodBundles: walked. -/
import Derived.Test.YtjjplihdohedjaaDoorFirst
import Derived.Test.YtjjplihdohedjaaDoorBundles
namespace Go.Proofs.YtjjplihdohedjaaDoor
open Go.RowKit

theorem bundlesR_num (g b : Int) : ∃ v e : Int, bundlesR g b = .tuple #[.int .i64 v, .int .i64 e] := by
  unfold bundlesR
  split
  · exact ⟨_, _, rfl⟩
  · exact ⟨_, _, rfl⟩
theorem bandR_num (g b : Int) : ∃ v e : Int, bandR g b = .tuple #[.int .i64 v, .int .i64 e] := by
  unfold bandR
  split
  · exact ⟨_, _, rfl⟩
  · exact ⟨_, _, rfl⟩

set_option maxRecDepth 100000 in
set_option maxHeartbeats 3200000 in
theorem rodBundles_any (g b : Int) (w : World) (hu : Units w) :
    Gives Tryd.prog 5 #[.int .i64 g, .int .i64 b] w (.bool true) := by
  have Hu := Lib.hid hu
  clear hu
  obtain ⟨v1, e1, h1⟩ := bundlesR_num g b
  obtain ⟨v2, e2, h2⟩ := bandR_num g b
  have H1 := Lib.hid h1
  have H2 := Lib.hid h2
  clear h1 h2
  go_enter Tryd.func5, Tryd.ntmps5
  go_wp2_with (first | (go_at_call 25; (first | (with_reducible show Calls _ _ _ (Later.val _) _; with_reducible refine Calls.mono (Later.call _ ((H1.out ▸ bundles_any _ _ _))) ?_) | (with_reducible refine Calls.mono (Gives.calls ((H1.out ▸ bundles_any _ _ _))) ?_)); rintro e w1 ⟨rfl, y1, rfl⟩) | (go_at_call 26; (first | (with_reducible show Calls _ _ _ (Later.val _) _; with_reducible refine Calls.mono (Later.call _ ((H1.out ▸ r_bundles_any _ _ _))) ?_) | (with_reducible refine Calls.mono (Gives.calls ((H1.out ▸ r_bundles_any _ _ _))) ?_)); rintro e w1 ⟨rfl, y2, rfl⟩) | (go_at_call 27; (first | (with_reducible show Calls _ _ _ (Later.val _) _; with_reducible refine Calls.mono (Later.call _ ((H2.out ▸ band_any _ _ _))) ?_) | (with_reducible refine Calls.mono (Gives.calls ((H2.out ▸ band_any _ _ _))) ?_)); rintro e w1 ⟨rfl, y3, rfl⟩) | (go_at_call 28; (first | (with_reducible show Calls _ _ _ (Later.val _) _; with_reducible refine Calls.mono (Later.call _ ((H2.out ▸ r_band_any _ _ _))) ?_) | (with_reducible refine Calls.mono (Gives.calls ((H2.out ▸ r_band_any _ _ _))) ?_)); rintro e w1 ⟨rfl, y4, rfl⟩) | (go_at_call 20; (first | (with_reducible show Calls _ _ _ (Later.val _) _; with_reducible refine Calls.mono (Later.call _ (first_any _ (Hu.out.below (Later.ok _)))) ?_) | (with_reducible refine Calls.mono (Gives.calls (first_any _ (Hu.out.below (Later.ok _)))) ?_)); rintro e w1 ⟨rfl, y6, rfl⟩))
  go_ret
  exact ⟨rfl, later_of (by repeat (first | exact Below.refl _ _ | (with_reducible assumption) | apply below_later | apply below_alloc | apply below_drew | apply below_drewN))⟩
end Go.Proofs.YtjjplihdohedjaaDoor
