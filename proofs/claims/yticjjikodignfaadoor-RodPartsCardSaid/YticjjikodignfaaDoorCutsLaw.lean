/- The law RodCuts: walked. -/
import Derived.Test.YticjjikodignfaaDoorCutR
import Derived.Test.YticjjikodignfaaDoorFirst
namespace Go.Proofs.YticjjikodignfaaDoor
open Go.RowKit

/-- What both sides return. -/
def cutL (n : Nat) (i k : Int) (px py : Nat → Int) : List Pt := if argB n i k = true ∧ cutOk n i.toNat k.toNat px py = true then ptsOf (k.toNat - i.toNat + 1) (cutA i.toNat px) (cutA i.toNat py) else []
def cutK (n : Nat) (i k : Int) (px py : Nat → Int) : List Pt := if argB n i k = true ∧ cutOk n i.toNat k.toNat px py = true then ptsOf (n - k.toNat + i.toNat + 1) (cutB n k.toNat px) (cutB n k.toNat py) else []
def cutE (n : Nat) (i k : Int) (px py : Nat → Int) : Int := if argB n i k = true then (if cutOk n i.toNat k.toNat px py = true then 0 else 5) else 2

theorem cut_both (b off n cap : Nat) (px py : Nat → Int) (i k : Int) (w : World) (hc : n ≤ cap) (hm : cap ≤ maxLen) (hp : Posts w b off n px py) (hv : validB n px py = true)
    (wi : -9223372036854775808 ≤ i ∧ i ≤ 9223372036854775807) (wk : -9223372036854775808 ≤ k ∧ k ≤ 9223372036854775807) :
    GivesC 48 #[.slice (some ⟨b, off, none⟩) n cap, .int .i64 i, .int .i64 k] w (cutL n i k px py) (cutK n i k px py) (cutE n i k px py) ∧
    GivesC 49 #[.slice (some ⟨b, off, none⟩) n cap, .int .i64 i, .int .i64 k] w (cutL n i k px py) (cutK n i k px py) (cutE n i k px py) := by
  obtain ⟨n3, n40, hr⟩ := valid_bounds hv
  cases ha : argB n i k
  · have e1 : cutL n i k px py = [] := by unfold cutL; rw [ha, if_neg (by simp)]
    have e2 : cutK n i k px py = [] := by unfold cutK; rw [ha, if_neg (by simp)]
    have e3 : cutE n i k px py = 2 := by unfold cutE; rw [ha, if_neg (by simp)]
    rw [e1, e2, e3]
    exact ⟨cut_arg _ n cap px py i k w ⟨by omega, fun _ => ⟨b, off, rfl, hp⟩⟩ hv ha, r_cut_arg _ n cap i k w n3 n40 ha wi.1 wi.2 wk.1 wk.2⟩
  · have ha' := ha
    simp only [argB, Bool.and_eq_true, decide_eq_true_eq, Bool.not_eq_true'] at ha'
    obtain ⟨i0, ik, kn, hn⟩ := ha'
    obtain ⟨i, rfl⟩ : ∃ j : Nat, i = j := ⟨i.toNat, by omega⟩
    obtain ⟨k, rfl⟩ : ∃ j : Nat, k = j := ⟨k.toNat, by omega⟩
    have h0 : cutOk n i k px py = true → cutL n i k px py = ptsOf (k - i + 1) (cutA i px) (cutA i py) ∧ cutK n i k px py = ptsOf (n - k + i + 1) (cutB n k px) (cutB n k py) ∧ cutE n i k px py = 0 := fun h => by
      unfold cutL cutK cutE
      simp only [Int.toNat_natCast]
      rw [if_pos ⟨ha, h⟩, if_pos ⟨ha, h⟩, if_pos ha, if_pos h]
      exact ⟨rfl, rfl, rfl⟩
    have h1 : cutOk n i k px py = false → cutL n i k px py = [] ∧ cutK n i k px py = [] ∧ cutE n i k px py = 5 := fun h => by
      unfold cutL cutK cutE
      simp only [Int.toNat_natCast]
      have hne : ¬ cutOk n i k px py = true := by rw [h]; simp
      rw [if_neg (fun e => hne e.2), if_neg (fun e => hne e.2), if_pos ha, if_neg hne]
      exact ⟨rfl, rfl, rfl⟩
    exact ⟨cut_near b off n cap i k px py w hc hm hp hv (by omega) (by omega) hn _ _ _ h0 h1, r_cut_near b off n cap i k px py w hc hm hp hv (by omega) (by omega) hn _ _ _ h0 h1⟩
theorem cutL_len (n : Nat) (i k : Int) (px py : Nat → Int) : (cutL n i k px py).length ≤ n + 1 := by
  unfold cutL
  split
  · rename_i h
    have := h.1
    simp only [argB, Bool.and_eq_true, decide_eq_true_eq] at this
    rw [ptsOf_length]; omega
  · exact Nat.zero_le _
theorem cutK_len (n : Nat) (i k : Int) (px py : Nat → Int) : (cutK n i k px py).length ≤ n + 1 := by
  unfold cutK
  split
  · rename_i h
    have := h.1
    simp only [argB, Bool.and_eq_true, decide_eq_true_eq] at this
    rw [ptsOf_length]; omega
  · exact Nat.zero_le _

set_option maxRecDepth 100000 in
set_option maxHeartbeats 3200000 in
theorem cuts_any (A : Option Addr) (n cap : Nat) (px py : Nat → Int) (i k : Int) (w : World) (hu : Units w) (hn : n ≤ maxLen) (hc : n ≤ cap) (hm : cap ≤ maxLen) (hp : n ≤ 60 → IsPosts w A n px py)
    (wi : -9223372036854775808 ≤ i ∧ i ≤ 9223372036854775807) (wk : -9223372036854775808 ≤ k ∧ k ≤ 9223372036854775807) :
    Gives Tryd.prog 10 #[.slice A n cap, .int .i64 i, .int .i64 k] w (.bool true) := by
  have Hu := Lib.hid hu
  have hm0 : n < 9223372036854775808 := by unfold maxLen at hn; omega
  clear hu hn
  by_cases h60 : 60 < n
  · clear hp hc hm
    go_enter Tryd.func10, Tryd.ntmps10
    go_wp2_with (first | (go_at_call 20; (first | (with_reducible show Calls _ _ _ (Later.val _) _; with_reducible refine Calls.mono (Later.call _ (first_any _ Hu.out)) ?_) | (with_reducible refine Calls.mono (Gives.calls (first_any _ Hu.out)) ?_)); rintro e w1 ⟨rfl, y1, rfl⟩))
    go_ret
    exact ⟨rfl, later_of (by repeat (first | exact Below.refl _ _ | (with_reducible assumption) | apply below_later | apply below_alloc | apply below_drew | apply below_drewN))⟩
  · have Hp := Lib.hid (hp (by omega))
    clear hp
    cases hv : validB n px py
    · have HV := Lib.hid hv
      have V2 := Lib.hid (show rValidB n px py = false by rw [rValid_eq, hv])
      clear hv hc hm
      go_enter Tryd.func10, Tryd.ntmps10
      go_wp2_with (first | (go_at_call 48; with_reducible refine Calls.mono (GivesC.calls (cut_bad _ _ _ _ _ _ _ _ Hp.out HV.out)) ?_; rintro e w1 ⟨v, u, rfl, y1, rfl, ho1, ho2⟩; obtain ⟨B, cap1, rfl⟩ := ho1.shape_n (n := 0) rfl; obtain ⟨B2, cap2, rfl⟩ := ho2.shape_n (n := 0) rfl) | (go_at_call 32; (first | (with_reducible show Calls _ _ _ (Later.val _) _; with_reducible refine Calls.mono (Later.call _ ((V2.out ▸ r_valid_any _ _ _ _ _ _ (Hp.out.later _)))) ?_) | (with_reducible refine Calls.mono (Gives.calls ((V2.out ▸ r_valid_any _ _ _ _ _ _ (Hp.out.later _)))) ?_)); rintro e w1 ⟨rfl, y4, rfl⟩) | (go_at_call 20; (first | (with_reducible show Calls _ _ _ (Later.val _) _; with_reducible refine Calls.mono (Later.call _ (first_any _ (Hu.out.below (Later.ok _)))) ?_) | (with_reducible refine Calls.mono (Gives.calls (first_any _ (Hu.out.below (Later.ok _)))) ?_)); rintro e w1 ⟨rfl, y6, rfl⟩))
      go_ret
      exact ⟨rfl, later_of (by repeat (first | exact Below.refl _ _ | (with_reducible assumption) | apply below_later | apply below_alloc | apply below_drew | apply below_drewN))⟩
    · obtain ⟨b, off, rfl, hq⟩ := Hp.out.at_ (by have := (valid_bounds' hv).1; omega)
      have n40 := (valid_bounds' hv).2
      have CB : Hid (∀ x : Later w, _) := fun x => cut_both b off n cap px py i k x.val hc hm (hq.later x) hv wi wk
      have V2 := Lib.hid (show rValidB n px py = true by rw [rValid_eq, hv])
      have len := cutL_len n i k px py
      have len2 := cutK_len n i k px py
      clear hv hq hc hm wi wk
      generalize hL : cutL n i k px py = L at len CB
      generalize hK : cutK n i k px py = K at len2 CB
      generalize hE : cutE n i k px py = E at CB
      clear hL hK hE
      have C1 := Lib.hid (CB.out ⟨w, Below.refl _ _⟩).1
      have C2 : Hid (∀ x : Later w, GivesC 49 #[.slice (some ⟨b, off, none⟩) n cap, .int .i64 i, .int .i64 k] x.val L K E) := fun x => (CB.out x).2
      clear CB
      have HS := Lib.hid (show sameL L L = true by simp [sameL])
      have HS2 := Lib.hid (show sameL K K = true by simp [sameL])
      go_enter Tryd.func10, Tryd.ntmps10
      go_wp2_with (first | (go_at_call 48; with_reducible refine Calls.mono (GivesC.calls C1.out) ?_; rintro e w1 ⟨v, u, rfl, y1, rfl, ho1, ho2⟩; obtain ⟨B, cap1, rfl⟩ := ho1.shape_n rfl; obtain ⟨B2, cap2, rfl⟩ := ho2.shape_n rfl) | (go_at_call 32; with_reducible refine Calls.mono (Gives.calls ((V2.out ▸ r_valid_any _ _ _ _ _ _ (Hp.out.later _)))) ?_; rintro e w1 ⟨rfl, y4, rfl⟩) | (go_at_call 49; with_reducible refine Calls.mono (GivesC.calls (C2.out ⟨_, (by repeat (first | exact Below.refl _ _ | (with_reducible assumption) | apply below_later | apply below_alloc | apply below_drew | apply below_drewN))⟩)) ?_; rintro e w1 ⟨v, u, rfl, y5, rfl, ho3, ho4⟩; obtain ⟨B3, cap3, rfl⟩ := ho3.shape_n rfl; obtain ⟨B4, cap4, rfl⟩ := ho4.shape_n rfl) | (go_at_call 44; with_reducible refine Calls.mono (Gives.calls ((HS.out ▸ same_lists _ _ _ _ _ _ _ ((ho1.later y4).later y5) ho3 (by omega) (by omega)))) ?_; rintro e w1 ⟨rfl, y7, rfl⟩) | (go_at_call 44; with_reducible refine Calls.mono (Gives.calls ((HS2.out ▸ same_lists _ _ _ _ _ _ _ (((ho2.later y4).later y5).later y7) (ho4.later y7) (by omega) (by omega)))) ?_; rintro e w1 ⟨rfl, y8, rfl⟩) | (go_at_call 20; with_reducible refine Calls.mono (Gives.calls (first_any _ (Hu.out.below (by repeat (first | exact Below.refl _ _ | (with_reducible assumption) | apply below_later | apply below_alloc | apply below_drew | apply below_drewN))))) ?_; rintro e w1 ⟨rfl, y6, rfl⟩))
      go_ret
      exact ⟨rfl, later_of (by repeat (first | exact Below.refl _ _ | (with_reducible assumption) | apply below_later | apply below_alloc | apply below_drew | apply below_drewN))⟩
end Go.Proofs.YticjjikodignfaaDoor
