/- The law RodStraight: walked. -/
import Derived.Test.YticjjikodignfaaDoorStraight
import Derived.Test.YticjjikodignfaaDoorFirst
namespace Go.Proofs.YticjjikodignfaaDoor
open Go.RowKit

theorem pts_own (S : List Pt) : ptsOf S.length (hx S) (hy S) = S := by
  refine list_eq_of (ptsOf_length _ _ _) fun i hi => ?_
  rw [ptsOf_length] at hi
  exact ⟨hx_pts hi, hy_pts hi⟩
theorem kept_own {n : Nat} {px py : Nat → Int} (h : validB n px py = true) (S : List Pt) (hS : keptL n px py = S) :
    validB S.length (hx S) (hy S) = true ∧ areaI S.length (hx S) (hy S) = areaI n px py ∧ borderI S.length (hx S) (hy S) = borderI n px py ∧ keptL S.length (hx S) (hy S) = S := by
  have hl : S.length = (kept n px py).length := by rw [← hS, keptL_eq, List.length_map]
  obtain ⟨h1, h2, h3, h4⟩ := straight_main n n px py (Nat.le_refl _) (parcel_iff.1 h) (hx S) (hy S) (fun i hi => by
    have : S[i]? = some (px ((kept n px py).getD i 0), py ((kept n px py).getD i 0)) := by
      rw [← hS, keptL_eq, List.getElem?_map, List.getD_eq_getElem?_getD, List.getElem?_eq_getElem hi]; rfl
    unfold hx hy
    rw [List.getD_eq_getElem?_getD, this]
    exact ⟨rfl, rfl⟩)
  rw [← hl] at h1 h2 h3 h4
  refine ⟨parcel_iff.2 h1, h2, h3, ?_⟩
  rw [keptL_eq]
  have : kept S.length (hx S) (hy S) = List.range S.length := by
    unfold kept
    rw [List.filter_eq_self]
    intro i hi
    simp [h4 i (List.mem_range.1 hi)]
  rw [this]
  exact pts_own S

set_option maxRecDepth 100000 in
set_option maxHeartbeats 6400000 in
theorem straights_any (A : Option Addr) (n cap : Nat) (px py : Nat → Int) (w : World) (hu : Units w) (hn : n ≤ maxLen) (hp : n ≤ 60 → IsPosts w A n px py) :
    Gives Tryd.prog 8 #[.slice A n cap] w (.bool true) := by
  have Hu := Lib.hid hu
  have hm : n < 9223372036854775808 := by unfold maxLen at hn; omega
  clear hu hn
  by_cases h60 : 60 < n
  · clear hp
    go_enter Tryd.func8, Tryd.ntmps8
    go_wp2_with (first | (go_at_call 20; (first | (with_reducible show Calls _ _ _ (Later.val _) _; with_reducible refine Calls.mono (Later.call _ (first_any _ Hu.out)) ?_) | (with_reducible refine Calls.mono (Gives.calls (first_any _ Hu.out)) ?_)); rintro e w1 ⟨rfl, y1, rfl⟩))
    go_ret
    exact ⟨rfl, later_of (by repeat (first | exact Below.refl _ _ | (with_reducible assumption) | apply below_later | apply below_alloc | apply below_drew | apply below_drewN))⟩
  · have Hp := Lib.hid (hp (by omega))
    clear hp
    cases hv : validB n px py
    · have HV := Lib.hid hv
      have V2 := Lib.hid (show rValidB n px py = false by rw [rValid_eq, hv])
      clear hv
      go_enter Tryd.func8, Tryd.ntmps8
      go_wp2_with (first | (go_at_call 43; with_reducible refine Calls.mono (GivesP.calls (straight_bad _ _ _ _ _ _ Hp.out HV.out)) ?_; rintro e w1 ⟨v, rfl, y1, rfl, ho1⟩; obtain ⟨B, cap1, rfl⟩ := ho1.shape_n (n := 0) rfl) | (go_at_call 32; (first | (with_reducible show Calls _ _ _ (Later.val _) _; with_reducible refine Calls.mono (Later.call _ ((V2.out ▸ r_valid_any _ _ _ _ _ _ (Hp.out.later _)))) ?_) | (with_reducible refine Calls.mono (Gives.calls ((V2.out ▸ r_valid_any _ _ _ _ _ _ (Hp.out.later _)))) ?_)); rintro e w1 ⟨rfl, y4, rfl⟩) | (go_at_call 20; (first | (with_reducible show Calls _ _ _ (Later.val _) _; with_reducible refine Calls.mono (Later.call _ (first_any _ (Hu.out.below (Later.ok _)))) ?_) | (with_reducible refine Calls.mono (Gives.calls (first_any _ (Hu.out.below (Later.ok _)))) ?_)); rintro e w1 ⟨rfl, y6, rfl⟩))
      go_ret
      exact ⟨rfl, later_of (by repeat (first | exact Below.refl _ _ | (with_reducible assumption) | apply below_later | apply below_alloc | apply below_drew | apply below_drewN))⟩
    · obtain ⟨h1, h2, h3⟩ := valid_bounds hv
      obtain ⟨b, off, rfl, hq⟩ := Hp.out.at_ (by omega)
      have Hq := Lib.hid hq
      have H3 := Lib.hid h3
      have V1 := Lib.hid hv
      have V2 := Lib.hid (show rValidB n px py = true by rw [rValid_eq, hv])
      have F := Lib.hid (fan_eq px py h1)
      have len := keptTo_len n px py n
      change (keptL n px py).length ≤ n at len
      have KO := kept_own hv
      clear hv hq h3
      generalize hL : keptL n px py = S at len KO
      obtain ⟨k1, k2, k3, k4⟩ := KO S rfl
      have HL := Lib.hid hL
      have K1 := Lib.hid k1
      have K4 := Lib.hid k4
      have A1 := Lib.hid (show areaR S.length (hx S) (hy S) = .tuple #[.int .i64 (absI (areaI n px py)), .int .i64 0] by rw [areaR, k1, k2]; rfl)
      have A2 := Lib.hid (show borderR S.length (hx S) (hy S) = .tuple #[.int .i64 (borderI n px py), .int .i64 0] by rw [borderR, k1, k3]; rfl)
      have A3 := Lib.hid (show insideR S.length (hx S) (hy S) = .tuple #[.int .i64 (((absI (areaI n px py)) - borderI n px py + 2).tdiv 2), .int .i64 0] by rw [insideR, k1, k2, k3]; rfl)
      clear hL k1 k2 k3 k4 KO
      generalize hb1 : borderI n px py = B1 at A2 A3
      generalize ha1 : absI (areaI n px py) = B2 at A1 A3
      have Hb1 := Lib.hid hb1
      have Ha1 := Lib.hid ha1
      clear hb1 ha1
      have HS := Lib.hid (show sameL S S = true by simp [sameL])
      go_enter Tryd.func8, Tryd.ntmps8
      go_wp2_with (first
        | (go_at_call 43; with_reducible refine Calls.mono (GivesP.calls (HL.out ▸ straight_any _ _ _ _ _ _ Hp.out V1.out)) ?_; rintro e w1 ⟨v, rfl, y1, rfl, ho1⟩; obtain ⟨B, cap1, rfl⟩ := ho1.shape_n rfl; have Hs := Lib.hid (ho1.posts (by omega)).2)
        | (go_at_call 32; with_reducible refine Calls.mono (Gives.calls ((V2.out ▸ r_valid_any _ _ _ _ _ _ (Hp.out.later _)))) ?_; rintro e w1 ⟨rfl, y2, rfl⟩)
        | (go_at_call 45; with_reducible refine Calls.mono (GivesL.calls (HL.out ▸ r_straight_any _ _ _ _ _ _ _ h1 h2 ((Hq.out.later y1).later y2) H3.out)) ?_; rintro e w1 ⟨v, rfl, y3, rfl, ho2⟩; obtain ⟨B2, cap2, rfl⟩ := ho2.shape_n rfl)
        | (go_at_call 44; with_reducible refine Calls.mono (Gives.calls (HS.out ▸ same_lists _ _ _ _ _ _ _ ((ho1.later y2).later y3) ho2 (by omega) (by omega))) ?_; rintro e w1 ⟨rfl, y4, rfl⟩)
        | (go_at_call 43; with_reducible refine Calls.mono (GivesP.calls (K4.out ▸ straight_any _ _ _ _ _ _ (((Hs.out.later y2).later y3).later y4) K1.out)) ?_; rintro e w1 ⟨v, rfl, y5, rfl, ho3⟩; obtain ⟨B3, cap3, rfl⟩ := ho3.shape_n rfl)
        | (go_at_call 29; with_reducible refine Calls.mono (Gives.calls ((A1.out ▸ area_any _ _ _ _ _ _ ((((Hs.out.later y2).later y3).later y4).later y5)))) ?_; rintro e w1 ⟨rfl, y6, rfl⟩)
        | (go_at_call 30; with_reducible refine Calls.mono (Gives.calls ((A2.out ▸ border_any _ _ _ _ _ _ (((((Hs.out.later y2).later y3).later y4).later y5).later y6)))) ?_; rintro e w1 ⟨rfl, y7, rfl⟩)
        | (go_at_call 31; with_reducible refine Calls.mono (Gives.calls ((A3.out ▸ inside_any _ _ _ _ _ _ ((((((Hs.out.later y2).later y3).later y4).later y5).later y6).later y7)))) ?_; rintro e w1 ⟨rfl, y8, rfl⟩)
        | (go_at_call 44; with_reducible refine Calls.mono (Gives.calls (HS.out ▸ same_lists _ _ _ _ _ _ _ (((ho3.later y6).later y7).later y8) (((((((ho1.later y2).later y3).later y4).later y5).later y6).later y7).later y8) (by omega) (by omega))) ?_; rintro e w1 ⟨rfl, y9, rfl⟩)
        | (go_at_call 34; with_reducible refine Calls.mono (Gives.calls ((Ha1.out ▸ F.out ▸ r_space_any _ _ _ _ _ _ _ h1 h2 (Hq.out.later ⟨_, (by repeat (first | exact Below.refl _ _ | (with_reducible assumption) | apply below_later | apply below_alloc | apply below_drew | apply below_drewN))⟩) H3.out))) ?_; rintro e w1 ⟨rfl, z1, rfl⟩)
        | (go_at_call 35; with_reducible refine Calls.mono (Gives.calls ((Hb1.out ▸ r_border_any _ _ _ _ _ _ _ (by omega) h2 (Hq.out.later ⟨_, (by repeat (first | exact Below.refl _ _ | (with_reducible assumption) | apply below_later | apply below_alloc | apply below_drew | apply below_drewN))⟩) H3.out))) ?_; rintro e w1 ⟨rfl, z2, rfl⟩)
        | (go_at_call 36; with_reducible refine Calls.mono (Gives.calls ((Hb1.out ▸ Ha1.out ▸ F.out ▸ r_inside_any _ _ _ _ _ _ _ h1 h2 (Hq.out.later ⟨_, (by repeat (first | exact Below.refl _ _ | (with_reducible assumption) | apply below_later | apply below_alloc | apply below_drew | apply below_drewN))⟩) H3.out))) ?_; rintro e w1 ⟨rfl, z3, rfl⟩)
        | (go_at_call 20; with_reducible refine Calls.mono (Gives.calls (first_any _ (Hu.out.below (by repeat (first | exact Below.refl _ _ | (with_reducible assumption) | apply below_later | apply below_alloc | apply below_drew | apply below_drewN))))) ?_; rintro e w1 ⟨rfl, z4, rfl⟩))
      go_ret
      exact ⟨rfl, later_of (by repeat (first | exact Below.refl _ _ | (with_reducible assumption) | apply below_later | apply below_alloc | apply below_drew | apply below_drewN))⟩
end Go.Proofs.YticjjikodignfaaDoor
