/- The law RodMeasures: walked. -/
import Derived.Test.YtjjplihdohedjaaDoorFirst
import Derived.Test.YtjjplihdohedjaaDoorRefArea
namespace Go.Proofs.YtjjplihdohedjaaDoor
open Go.RowKit

set_option maxRecDepth 100000 in
set_option maxHeartbeats 3200000 in
theorem measures_any (A : Option Addr) (n cap : Nat) (px py : Nat → Int) (w : World) (hu : Units w) (hn : n ≤ maxLen) (hp : n ≤ 60 → IsPosts w A n px py) :
    Gives Tryd.prog 6 #[.slice A n cap] w (.bool true) := by
  have Hu := Lib.hid hu
  have hm : n < 9223372036854775808 := by unfold maxLen at hn; omega
  clear hu hn
  by_cases h60 : 60 < n
  · clear hp
    go_enter Tryd.func6, Tryd.ntmps6
    go_wp2_with (first | (go_at_call 20; (first | (with_reducible show Calls _ _ _ (Later.val _) _; with_reducible refine Calls.mono (Later.call _ (first_any _ Hu.out)) ?_) | (with_reducible refine Calls.mono (Gives.calls (first_any _ Hu.out)) ?_)); rintro e w1 ⟨rfl, y1, rfl⟩))
    go_ret
    exact ⟨rfl, later_of (by repeat (first | exact Below.refl _ _ | (with_reducible assumption) | apply below_later | apply below_alloc | apply below_drew | apply below_drewN))⟩
  · have Hp := Lib.hid (hp (by omega))
    clear hp
    cases hv : validB n px py
    · have A1 := Lib.hid (show areaR n px py = .tuple #[.int .i64 0, .int .i64 10] by rw [areaR, hv]; rfl)
      have A2 := Lib.hid (show borderR n px py = .tuple #[.int .i64 0, .int .i64 10] by rw [borderR, hv]; rfl)
      have A3 := Lib.hid (show insideR n px py = .tuple #[.int .i64 0, .int .i64 10] by rw [insideR, hv]; rfl)
      have V1 := Lib.hid hv
      have V2 := Lib.hid (show rValidB n px py = false by rw [rValid_eq, hv])
      clear hv
      go_enter Tryd.func6, Tryd.ntmps6
      go_wp2_with (first | (go_at_call 29; (first | (with_reducible show Calls _ _ _ (Later.val _) _; with_reducible refine Calls.mono (Later.call _ ((A1.out ▸ area_any _ _ _ _ _ _ (by first | exact Hp.out | exact Hp.out.later _)))) ?_) | (with_reducible refine Calls.mono (Gives.calls ((A1.out ▸ area_any _ _ _ _ _ _ (by first | exact Hp.out | exact Hp.out.later _)))) ?_)); rintro e w1 ⟨rfl, y1, rfl⟩) | (go_at_call 30; (first | (with_reducible show Calls _ _ _ (Later.val _) _; with_reducible refine Calls.mono (Later.call _ ((A2.out ▸ border_any _ _ _ _ _ _ (by first | exact Hp.out | exact Hp.out.later _)))) ?_) | (with_reducible refine Calls.mono (Gives.calls ((A2.out ▸ border_any _ _ _ _ _ _ (by first | exact Hp.out | exact Hp.out.later _)))) ?_)); rintro e w1 ⟨rfl, y2, rfl⟩) | (go_at_call 31; (first | (with_reducible show Calls _ _ _ (Later.val _) _; with_reducible refine Calls.mono (Later.call _ ((A3.out ▸ inside_any _ _ _ _ _ _ (by first | exact Hp.out | exact Hp.out.later _)))) ?_) | (with_reducible refine Calls.mono (Gives.calls ((A3.out ▸ inside_any _ _ _ _ _ _ (by first | exact Hp.out | exact Hp.out.later _)))) ?_)); rintro e w1 ⟨rfl, y3, rfl⟩) | (go_at_call 32; (first | (with_reducible show Calls _ _ _ (Later.val _) _; with_reducible refine Calls.mono (Later.call _ ((V2.out ▸ r_valid_any _ _ _ _ _ _ (by first | exact Hp.out | exact Hp.out.later _)))) ?_) | (with_reducible refine Calls.mono (Gives.calls ((V2.out ▸ r_valid_any _ _ _ _ _ _ (by first | exact Hp.out | exact Hp.out.later _)))) ?_)); rintro e w1 ⟨rfl, y4, rfl⟩) | (go_at_call 33; (first | (with_reducible show Calls _ _ _ (Later.val _) _; with_reducible refine Calls.mono (Later.call _ ((V1.out ▸ valid_any _ _ _ _ _ _ (by first | exact Hp.out | exact Hp.out.later _)))) ?_) | (with_reducible refine Calls.mono (Gives.calls ((V1.out ▸ valid_any _ _ _ _ _ _ (by first | exact Hp.out | exact Hp.out.later _)))) ?_)); rintro e w1 ⟨rfl, y5, rfl⟩) | (go_at_call 20; (first | (with_reducible show Calls _ _ _ (Later.val _) _; with_reducible refine Calls.mono (Later.call _ (first_any _ (Hu.out.below (Later.ok _)))) ?_) | (with_reducible refine Calls.mono (Gives.calls (first_any _ (Hu.out.below (Later.ok _)))) ?_)); rintro e w1 ⟨rfl, y6, rfl⟩))
      go_ret
      exact ⟨rfl, later_of (by repeat (first | exact Below.refl _ _ | (with_reducible assumption) | apply below_later | apply below_alloc | apply below_drew | apply below_drewN))⟩
    · obtain ⟨h1, h2, h3⟩ := valid_bounds hv
      obtain ⟨b, off, rfl, hq⟩ := Hp.out.at_ (by omega)
      have H3 := Lib.hid h3
      have Hq := Lib.hid hq
      have A1 := Lib.hid (show areaR n px py = .tuple #[.int .i64 (absI (areaI n px py)), .int .i64 0] by rw [areaR, hv]; rfl)
      have A2 := Lib.hid (show borderR n px py = .tuple #[.int .i64 (borderI n px py), .int .i64 0] by rw [borderR, hv]; rfl)
      have A3 := Lib.hid (show insideR n px py = .tuple #[.int .i64 (((absI (areaI n px py)) - borderI n px py + 2).tdiv 2), .int .i64 0] by rw [insideR, hv]; rfl)
      have V1 := Lib.hid hv
      have V2 := Lib.hid (show rValidB n px py = true by rw [rValid_eq, hv])
      have F := Lib.hid (fan_eq px py h1)
      clear hv h3 hq
      generalize hb1 : borderI n px py = B1 at A2 A3
      generalize ha1 : absI (areaI n px py) = B2 at A1 A3
      have Hb1 := Lib.hid hb1
      have Ha1 := Lib.hid ha1
      clear hb1 ha1
      go_enter Tryd.func6, Tryd.ntmps6
      go_wp2_with (first | (go_at_call 29; (first | (with_reducible show Calls _ _ _ (Later.val _) _; with_reducible refine Calls.mono (Later.call _ ((A1.out ▸ area_any _ _ _ _ _ _ (by first | exact Hp.out | exact Hp.out.later _)))) ?_) | (with_reducible refine Calls.mono (Gives.calls ((A1.out ▸ area_any _ _ _ _ _ _ (by first | exact Hp.out | exact Hp.out.later _)))) ?_)); rintro e w1 ⟨rfl, y1, rfl⟩) | (go_at_call 30; (first | (with_reducible show Calls _ _ _ (Later.val _) _; with_reducible refine Calls.mono (Later.call _ ((A2.out ▸ border_any _ _ _ _ _ _ (by first | exact Hp.out | exact Hp.out.later _)))) ?_) | (with_reducible refine Calls.mono (Gives.calls ((A2.out ▸ border_any _ _ _ _ _ _ (by first | exact Hp.out | exact Hp.out.later _)))) ?_)); rintro e w1 ⟨rfl, y2, rfl⟩) | (go_at_call 31; (first | (with_reducible show Calls _ _ _ (Later.val _) _; with_reducible refine Calls.mono (Later.call _ ((A3.out ▸ inside_any _ _ _ _ _ _ (by first | exact Hp.out | exact Hp.out.later _)))) ?_) | (with_reducible refine Calls.mono (Gives.calls ((A3.out ▸ inside_any _ _ _ _ _ _ (by first | exact Hp.out | exact Hp.out.later _)))) ?_)); rintro e w1 ⟨rfl, y3, rfl⟩) | (go_at_call 32; (first | (with_reducible show Calls _ _ _ (Later.val _) _; with_reducible refine Calls.mono (Later.call _ ((V2.out ▸ r_valid_any _ _ _ _ _ _ (by first | exact Hp.out | exact Hp.out.later _)))) ?_) | (with_reducible refine Calls.mono (Gives.calls ((V2.out ▸ r_valid_any _ _ _ _ _ _ (by first | exact Hp.out | exact Hp.out.later _)))) ?_)); rintro e w1 ⟨rfl, y4, rfl⟩) | (go_at_call 33; (first | (with_reducible show Calls _ _ _ (Later.val _) _; with_reducible refine Calls.mono (Later.call _ ((V1.out ▸ valid_any _ _ _ _ _ _ (by first | exact Hp.out | exact Hp.out.later _)))) ?_) | (with_reducible refine Calls.mono (Gives.calls ((V1.out ▸ valid_any _ _ _ _ _ _ (by first | exact Hp.out | exact Hp.out.later _)))) ?_)); rintro e w1 ⟨rfl, y5, rfl⟩) | (go_at_call 20; (first | (with_reducible show Calls _ _ _ (Later.val _) _; with_reducible refine Calls.mono (Later.call _ (first_any _ (Hu.out.below (Later.ok _)))) ?_) | (with_reducible refine Calls.mono (Gives.calls (first_any _ (Hu.out.below (Later.ok _)))) ?_)); rintro e w1 ⟨rfl, y6, rfl⟩) | (go_at_call 34; (first | (with_reducible show Calls _ _ _ (Later.val _) _; with_reducible refine Calls.mono (Later.call _ ((Ha1.out ▸ F.out ▸ r_space_any _ _ _ _ _ _ _ (by assumption) (by assumption) (Hq.out.later _) H3.out))) ?_) | (with_reducible refine Calls.mono (Gives.calls ((Ha1.out ▸ F.out ▸ r_space_any _ _ _ _ _ _ _ (by assumption) (by assumption) (Hq.out.later _) H3.out))) ?_)); rintro e w1 ⟨rfl, y7, rfl⟩) | (go_at_call 35; (first | (with_reducible show Calls _ _ _ (Later.val _) _; with_reducible refine Calls.mono (Later.call _ ((Hb1.out ▸ r_border_any _ _ _ _ _ _ _ (by omega) (by assumption) (Hq.out.later _) H3.out))) ?_) | (with_reducible refine Calls.mono (Gives.calls ((Hb1.out ▸ r_border_any _ _ _ _ _ _ _ (by omega) (by assumption) (Hq.out.later _) H3.out))) ?_)); rintro e w1 ⟨rfl, y8, rfl⟩) | (go_at_call 36; (first | (with_reducible show Calls _ _ _ (Later.val _) _; with_reducible refine Calls.mono (Later.call _ ((Hb1.out ▸ Ha1.out ▸ F.out ▸ r_inside_any _ _ _ _ _ _ _ (by assumption) (by assumption) (Hq.out.later _) H3.out))) ?_) | (with_reducible refine Calls.mono (Gives.calls ((Hb1.out ▸ Ha1.out ▸ F.out ▸ r_inside_any _ _ _ _ _ _ _ (by assumption) (by assumption) (Hq.out.later _) H3.out))) ?_)); rintro e w1 ⟨rfl, y9, rfl⟩))
      go_ret
      exact ⟨rfl, later_of (by repeat (first | exact Below.refl _ _ | (with_reducible assumption) | apply below_later | apply below_alloc | apply below_drew | apply below_drewN))⟩
end Go.Proofs.YtjjplihdohedjaaDoor
