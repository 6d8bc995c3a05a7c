/- The law RodMoves: walked. -/
import Derived.Test.YticjjikodignfaaDoorMoves
import Derived.Test.YticjjikodignfaaDoorGeo
import Derived.Test.YticjjikodignfaaDoorFirst
namespace Go.Proofs.YticjjikodignfaaDoor
open Go.RowKit

set_option maxRecDepth 100000 in
set_option maxHeartbeats 800000 in
theorem r_move_far (A : Option Addr) (n cap : Nat) (dx dy : Int) (w : World) (hf : (farB dx && farB dy) = false) :
    GivesP 51 #[.slice A n cap, .agg #[.int .i64 dx, .int .i64 dy]] w [] 2 := by
  unfold farB betB at hf
  by_cases g1 : dx < -2000
  · go_enter Tryd.func51, Tryd.ntmps51
    go_wp2
    go_ret2
    exact ⟨_, rfl, ⟨_, (by repeat (first | exact Below.refl _ _ | (with_reducible assumption) | apply below_later | apply below_alloc | apply below_drew | apply below_drewN))⟩, rfl, OwnP.nil _ _⟩
  · by_cases g2 : 2000 < dx
    · go_enter Tryd.func51, Tryd.ntmps51
      go_wp2
      go_ret2
      exact ⟨_, rfl, ⟨_, (by repeat (first | exact Below.refl _ _ | (with_reducible assumption) | apply below_later | apply below_alloc | apply below_drew | apply below_drewN))⟩, rfl, OwnP.nil _ _⟩
    · by_cases g3 : dy < -2000
      · go_enter Tryd.func51, Tryd.ntmps51
        go_wp2
        go_ret2
        exact ⟨_, rfl, ⟨_, (by repeat (first | exact Below.refl _ _ | (with_reducible assumption) | apply below_later | apply below_alloc | apply below_drew | apply below_drewN))⟩, rfl, OwnP.nil _ _⟩
      · have g4 : 2000 < dy := by
          have e1 : decide (-2000 ≤ dx) = true := by simp; omega
          have e2 : decide (dx ≤ 2000) = true := by simp; omega
          have e3 : decide (-2000 ≤ dy) = true := by simp; omega
          rw [e1, e2, e3] at hf
          simp at hf
          omega
        clear hf
        go_enter Tryd.func51, Tryd.ntmps51
        go_wp2
        go_ret2
        exact ⟨_, rfl, ⟨_, (by repeat (first | exact Below.refl _ _ | (with_reducible assumption) | apply below_later | apply below_alloc | apply below_drew | apply below_drewN))⟩, rfl, OwnP.nil _ _⟩

/-- What both sides return: the moved corners, or an error. -/
def movedL (n : Nat) (px py : Nat → Int) (dx dy : Int) : List Pt := if (farB dx && farB dy) = true ∧ rangedB n (moveI px dx) (moveI py dy) = true then ptsOf n (moveI px dx) (moveI py dy) else []
def movedE (n : Nat) (px py : Nat → Int) (dx dy : Int) : Int := if (farB dx && farB dy) = true ∧ rangedB n (moveI px dx) (moveI py dy) = true then 0 else 2
theorem moved_both (b off n cap : Nat) (px py : Nat → Int) (dx dy : Int) (w : World) (hp : Posts w b off n px py) (hv : validB n px py = true) :
    GivesP 50 #[.slice (some ⟨b, off, none⟩) n cap, .agg #[.int .i64 dx, .int .i64 dy]] w (movedL n px py dx dy) (movedE n px py dx dy) ∧
    GivesP 51 #[.slice (some ⟨b, off, none⟩) n cap, .agg #[.int .i64 dx, .int .i64 dy]] w (movedL n px py dx dy) (movedE n px py dx dy) := by
  obtain ⟨n3, n40, hr⟩ : 3 ≤ n ∧ n ≤ 40 ∧ ∀ i, i < n → InRange (px i) (py i) := by
    simp only [validB, Bool.and_eq_true, decide_eq_true_eq] at hv
    exact ⟨hv.1.1.1, hv.1.1.2, ranged_of_B hv.1.2⟩
  cases hf : (farB dx && farB dy)
  · have e1 : movedL n px py dx dy = [] := by unfold movedL; rw [hf, if_neg (by simp)]
    have e2 : movedE n px py dx dy = 2 := by unfold movedE; rw [hf, if_neg (by simp)]
    rw [e1, e2]
    exact ⟨move_far b off n cap px py dx dy w hp hv hf, r_move_far _ n cap dx dy w hf⟩
  · have h0 : rangedB n (moveI px dx) (moveI py dy) = true → movedL n px py dx dy = ptsOf n (moveI px dx) (moveI py dy) ∧ movedE n px py dx dy = 0 := fun h => by
      unfold movedL movedE; rw [if_pos ⟨hf, h⟩, if_pos ⟨hf, h⟩]; exact ⟨rfl, rfl⟩
    have h1 : rangedB n (moveI px dx) (moveI py dy) = false → movedL n px py dx dy = [] ∧ movedE n px py dx dy = 2 := fun h => by
      unfold movedL movedE; rw [h, if_neg (by simp), if_neg (by simp)]; exact ⟨rfl, rfl⟩
    exact ⟨move_near b off n cap px py dx dy w hp hv hf _ _ h0 h1, r_move_near b off n cap px py dx dy w hp n3 n40 hr hf _ _ h0 h1⟩
theorem movedL_len (n : Nat) (px py : Nat → Int) (dx dy : Int) : (movedL n px py dx dy).length ≤ n := by
  unfold movedL
  split
  · rw [ptsOf_length]; exact Nat.le_refl _
  · exact Nat.zero_le _

set_option maxRecDepth 100000 in
set_option maxHeartbeats 3200000 in
theorem moves_any (A : Option Addr) (n cap : Nat) (px py : Nat → Int) (dx dy : Int) (w : World) (hu : Units w) (hn : n ≤ maxLen) (hp : n ≤ 60 → IsPosts w A n px py) :
    Gives Tryd.prog 11 #[.slice A n cap, .agg #[.int .i64 dx, .int .i64 dy]] w (.bool true) := by
  have Hu := Lib.hid (hu.below (show Below w.heap.size w (w.alloc (.cells #[.int .i64 dx, .int .i64 dy] 37)) by repeat (first | exact Below.refl _ _ | (with_reducible assumption) | apply below_later | apply below_alloc | apply below_drew | apply below_drewN)))
  have hm : n < 9223372036854775808 := by unfold maxLen at hn; omega
  clear hu hn
  by_cases h60 : 60 < n
  · clear hp
    go_enter Tryd.func11, Tryd.ntmps11
    go_wp2_with (first | (go_at_call 20; (first | (with_reducible show Calls _ _ _ (Later.val _) _; with_reducible refine Calls.mono (Later.call _ (first_any _ Hu.out)) ?_) | (with_reducible refine Calls.mono (Gives.calls (first_any _ Hu.out)) ?_)); rintro e w1 ⟨rfl, y1, rfl⟩))
    go_ret
    exact ⟨rfl, later_of (by repeat (first | exact Below.refl _ _ | (with_reducible assumption) | apply below_later | apply below_alloc | apply below_drew | apply below_drewN))⟩
  · have Hp := Lib.hid ((hp (by omega)).later ⟨w.alloc (.cells #[.int .i64 dx, .int .i64 dy] 37), by repeat (first | exact Below.refl _ _ | (with_reducible assumption) | apply below_later | apply below_alloc | apply below_drew | apply below_drewN)⟩)
    clear hp
    cases hv : validB n px py
    · have HV := Lib.hid hv
      have V2 := Lib.hid (show rValidB n px py = false by rw [rValid_eq, hv])
      clear hv
      go_enter Tryd.func11, Tryd.ntmps11
      go_wp2_with (first | (go_at_call 50; with_reducible refine Calls.mono (GivesP.calls (move_bad _ _ _ _ _ _ _ _ Hp.out HV.out)) ?_; rintro e w1 ⟨v, rfl, y1, rfl, ho1⟩; obtain ⟨B, cap1, rfl⟩ := ho1.shape_n (n := 0) rfl) | (go_at_call 32; (first | (with_reducible show Calls _ _ _ (Later.val _) _; with_reducible refine Calls.mono (Later.call _ ((V2.out ▸ r_valid_any _ _ _ _ _ _ (Hp.out.later _)))) ?_) | (with_reducible refine Calls.mono (Gives.calls ((V2.out ▸ r_valid_any _ _ _ _ _ _ (Hp.out.later _)))) ?_)); rintro e w1 ⟨rfl, y4, rfl⟩) | (go_at_call 20; (first | (with_reducible show Calls _ _ _ (Later.val _) _; with_reducible refine Calls.mono (Later.call _ (first_any _ (Hu.out.below (Later.ok _)))) ?_) | (with_reducible refine Calls.mono (Gives.calls (first_any _ (Hu.out.below (Later.ok _)))) ?_)); rintro e w1 ⟨rfl, y6, rfl⟩))
      go_ret
      exact ⟨rfl, later_of (by repeat (first | exact Below.refl _ _ | (with_reducible assumption) | apply below_later | apply below_alloc | apply below_drew | apply below_drewN))⟩
    · obtain ⟨b, off, rfl, hq⟩ := Hp.out.at_ (by have := (valid_bounds' hv).1; omega)
      have Hq := Lib.hid hq
      have HV := Lib.hid hv
      have n40 := (valid_bounds' hv).2
      have V2 := Lib.hid (show rValidB n px py = true by rw [rValid_eq, hv])
      have len := movedL_len n px py dx dy
      clear hv hq
      generalize hL : movedL n px py dx dy = L at len
      generalize hE : movedE n px py dx dy = E
      have HL := Lib.hid hL
      have HE := Lib.hid hE
      clear hL hE
      go_enter Tryd.func11, Tryd.ntmps11
      have HS := Lib.hid (show sameL L L = true by simp [sameL])
      go_wp2_with (first | (go_at_call 50; with_reducible refine Calls.mono (GivesP.calls (HL.out ▸ HE.out ▸ (moved_both _ _ _ _ _ _ _ _ _ Hq.out HV.out).1)) ?_; rintro e w1 ⟨v, rfl, y1, rfl, ho1⟩; obtain ⟨B, cap1, rfl⟩ := ho1.shape_n rfl) | (go_at_call 32; with_reducible refine Calls.mono (Gives.calls (V2.out ▸ r_valid_any _ _ _ _ _ _ (Hp.out.later _))) ?_; rintro e w1 ⟨rfl, y4, rfl⟩) | (go_at_call 51; with_reducible refine Calls.mono (GivesP.calls (HL.out ▸ HE.out ▸ (moved_both _ _ _ _ _ _ _ _ _ ((Hq.out.later y1).later y4) HV.out).2)) ?_; rintro e w1 ⟨v, rfl, y5, rfl, ho2⟩; obtain ⟨B2, cap2, rfl⟩ := ho2.shape_n rfl) | (go_at_call 44; with_reducible refine Calls.mono (Gives.calls (HS.out ▸ same_lists _ _ _ _ _ _ _ ((ho1.later y4).later y5) ho2 (by omega) (by omega))) ?_; rintro e w1 ⟨rfl, y7, rfl⟩) | (go_at_call 20; (first | (with_reducible show Calls _ _ _ (Later.val _) _; with_reducible refine Calls.mono (Later.call _ (first_any _ (Hu.out.below (by repeat (first | exact Below.refl _ _ | (with_reducible assumption) | apply below_later | apply below_alloc | apply below_drew | apply below_drewN))))) ?_) | (with_reducible refine Calls.mono (Gives.calls (first_any _ (Hu.out.below (by repeat (first | exact Below.refl _ _ | (with_reducible assumption) | apply below_later | apply below_alloc | apply below_drew | apply below_drewN))))) ?_)); rintro e w1 ⟨rfl, y6, rfl⟩))
      go_ret
      exact ⟨rfl, later_of (by repeat (first | exact Below.refl _ _ | (with_reducible assumption) | apply below_later | apply below_alloc | apply below_drew | apply below_drewN))⟩
end Go.Proofs.YticjjikodignfaaDoor
