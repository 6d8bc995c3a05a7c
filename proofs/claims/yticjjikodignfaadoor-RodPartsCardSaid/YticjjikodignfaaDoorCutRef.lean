/- The document's Cut; wrong arguments on both sides. -/
import Derived.Test.YticjjikodignfaaDoorCut
import Derived.Deep.RegionLaw
import Derived.Deep.AppendLies
namespace Go.Proofs.YticjjikodignfaaDoor
open Go.RowKit

theorem cut_bad (A : Option Addr) (n cap : Nat) (px py : Nat → Int) (i k : Int) (w : World) (hp : IsPosts w A n px py) (hv : validB n px py = false) :
    GivesC 48 #[.slice A n cap, .int .i64 i, .int .i64 k] w [] [] 10 := by
  have Hp := Lib.hid hp
  clear hp
  go_enter Tryd.func48, Tryd.ntmps48
  go_wp2_with (first | (go_at_call 33; (first | (with_reducible show Calls _ _ _ (Later.val _) _; with_reducible refine Calls.mono (Later.call _ ((hv ▸ valid_any _ _ _ _ _ _ Hp.out))) ?_) | (with_reducible refine Calls.mono (Gives.calls ((hv ▸ valid_any _ _ _ _ _ _ Hp.out))) ?_)); rintro e w1 ⟨rfl, y1, rfl⟩))
  go_ret3
  exact ⟨_, _, rfl, ⟨_, (by repeat (first | exact Below.refl _ _ | (with_reducible assumption) | apply below_later | apply below_alloc | apply below_drew | apply below_drewN))⟩, rfl, OwnP.nil _ _, OwnP.nil _ _⟩

/-- The arguments are right. -/
def argB (n : Nat) (i k : Int) : Bool := decide (0 ≤ i) && (decide (i < k) && (decide (k < n) && !neighB n i.toNat k.toNat))

set_option maxHeartbeats 1600000 in
theorem cut_arg (A : Option Addr) (n cap : Nat) (px py : Nat → Int) (i k : Int) (w : World) (hp : IsPosts w A n px py) (hv : validB n px py = true) (ha : argB n i k = false) :
    GivesC 48 #[.slice A n cap, .int .i64 i, .int .i64 k] w [] [] 2 := by
  have Hp := Lib.hid hp
  have n40 := (valid_bounds' hv).2
  have n3 := (valid_bounds' hv).1
  clear hp
  by_cases h1 : i < 0
  · clear ha
    go_enter Tryd.func48, Tryd.ntmps48
    go_wp2_with (first | (go_at_call 33; (first | (with_reducible show Calls _ _ _ (Later.val _) _; with_reducible refine Calls.mono (Later.call _ ((hv ▸ valid_any _ _ _ _ _ _ Hp.out))) ?_) | (with_reducible refine Calls.mono (Gives.calls ((hv ▸ valid_any _ _ _ _ _ _ Hp.out))) ?_)); rintro e w1 ⟨rfl, y1, rfl⟩))
    go_ret3
    exact ⟨_, _, rfl, ⟨_, (by repeat (first | exact Below.refl _ _ | (with_reducible assumption) | apply below_later | apply below_alloc | apply below_drew | apply below_drewN))⟩, rfl, OwnP.nil _ _, OwnP.nil _ _⟩
  · by_cases h2 : k ≤ i
    · clear ha
      go_enter Tryd.func48, Tryd.ntmps48
      go_wp2_with (first | (go_at_call 33; (first | (with_reducible show Calls _ _ _ (Later.val _) _; with_reducible refine Calls.mono (Later.call _ ((hv ▸ valid_any _ _ _ _ _ _ Hp.out))) ?_) | (with_reducible refine Calls.mono (Gives.calls ((hv ▸ valid_any _ _ _ _ _ _ Hp.out))) ?_)); rintro e w1 ⟨rfl, y1, rfl⟩))
      go_ret3
      exact ⟨_, _, rfl, ⟨_, (by repeat (first | exact Below.refl _ _ | (with_reducible assumption) | apply below_later | apply below_alloc | apply below_drew | apply below_drewN))⟩, rfl, OwnP.nil _ _, OwnP.nil _ _⟩
    · by_cases h3 : (n : Int) ≤ k
      · clear ha
        go_enter Tryd.func48, Tryd.ntmps48
        go_wp2_with (first | (go_at_call 33; (first | (with_reducible show Calls _ _ _ (Later.val _) _; with_reducible refine Calls.mono (Later.call _ ((hv ▸ valid_any _ _ _ _ _ _ Hp.out))) ?_) | (with_reducible refine Calls.mono (Gives.calls ((hv ▸ valid_any _ _ _ _ _ _ Hp.out))) ?_)); rintro e w1 ⟨rfl, y1, rfl⟩))
        go_ret3
        exact ⟨_, _, rfl, ⟨_, (by repeat (first | exact Below.refl _ _ | (with_reducible assumption) | apply below_later | apply below_alloc | apply below_drew | apply below_drewN))⟩, rfl, OwnP.nil _ _, OwnP.nil _ _⟩
      · obtain ⟨i, rfl⟩ : ∃ j : Nat, i = j := ⟨i.toNat, by omega⟩
        obtain ⟨k, rfl⟩ : ∃ j : Nat, k = j := ⟨k.toNat, by omega⟩
        have hn : neighB n i k = true := by
          have e1 : decide ((0 : Int) ≤ i) = true := by simp
          have e2 : decide ((i : Int) < k) = true := by simp; omega
          have e3 : decide ((k : Int) < n) = true := by simp; omega
          unfold argB at ha
          rw [e1, e2, e3] at ha
          simpa using ha
        have HN := Lib.hid hn
        clear ha hn
        go_enter Tryd.func48, Tryd.ntmps48
        go_wp2_with (first | (go_at_call 33; (first | (with_reducible show Calls _ _ _ (Later.val _) _; with_reducible refine Calls.mono (Later.call _ ((hv ▸ valid_any _ _ _ _ _ _ Hp.out))) ?_) | (with_reducible refine Calls.mono (Gives.calls ((hv ▸ valid_any _ _ _ _ _ _ Hp.out))) ?_)); rintro e w1 ⟨rfl, y1, rfl⟩) | (go_at_call 87; (first | (with_reducible show Calls _ _ _ (Later.val _) _; with_reducible refine Calls.mono (Later.call _ ((HN.out ▸ neighbours_any n i k _ (by omega) (by omega) (by omega) (by omega)))) ?_) | (with_reducible refine Calls.mono (Gives.calls ((HN.out ▸ neighbours_any n i k _ (by omega) (by omega) (by omega) (by omega)))) ?_)); rintro e w1 ⟨rfl, y2, rfl⟩))
        go_ret3
        exact ⟨_, _, rfl, ⟨_, (by repeat (first | exact Below.refl _ _ | (with_reducible assumption) | apply below_later | apply below_alloc | apply below_drew | apply below_drewN))⟩, rfl, OwnP.nil _ _, OwnP.nil _ _⟩

set_option maxHeartbeats 1600000 in
theorem r_cut_arg (A : Option Addr) (n cap : Nat) (i k : Int) (w : World) (n3 : 3 ≤ n) (n40 : n ≤ 40) (ha : argB n i k = false) (wi : -9223372036854775808 ≤ i) (wi' : i ≤ 9223372036854775807) (wk : -9223372036854775808 ≤ k) (wk' : k ≤ 9223372036854775807) :
    GivesC 49 #[.slice A n cap, .int .i64 i, .int .i64 k] w [] [] 2 := by
  by_cases h1 : i < 0
  · clear ha
    go_enter Tryd.func49, Tryd.ntmps49
    go_wp2
    go_ret3
    exact ⟨_, _, rfl, ⟨_, (by repeat (first | exact Below.refl _ _ | (with_reducible assumption) | apply below_later | apply below_alloc | apply below_drew | apply below_drewN))⟩, rfl, OwnP.nil _ _, OwnP.nil _ _⟩
  · by_cases h3 : (n : Int) ≤ k
    · clear ha
      go_enter Tryd.func49, Tryd.ntmps49
      go_wp2
      go_ret3
      exact ⟨_, _, rfl, ⟨_, (by repeat (first | exact Below.refl _ _ | (with_reducible assumption) | apply below_later | apply below_alloc | apply below_drew | apply below_drewN))⟩, rfl, OwnP.nil _ _, OwnP.nil _ _⟩
    · by_cases h2 : k ≤ i
      · clear ha
        go_enter Tryd.func49, Tryd.ntmps49
        go_wp2
        go_ret3
        exact ⟨_, _, rfl, ⟨_, (by repeat (first | exact Below.refl _ _ | (with_reducible assumption) | apply below_later | apply below_alloc | apply below_drew | apply below_drewN))⟩, rfl, OwnP.nil _ _, OwnP.nil _ _⟩
      · have hn : k - i = 1 ∨ k - i = (n : Int) - 1 := by
          have e1 : decide ((0 : Int) ≤ i) = true := by simp; omega
          have e2 : decide (i < k) = true := by simp; omega
          have e3 : decide (k < n) = true := by simp; omega
          unfold argB at ha
          rw [e1, e2, e3] at ha
          simp only [Bool.true_and, Bool.not_eq_false', neighB, Bool.or_eq_true, Bool.and_eq_true, decide_eq_true_eq] at ha
          omega
        clear ha
        by_cases h4 : k - i = 1
        · have h4' : k = i + 1 := by omega
          subst h4'
          clear hn h4
          have e1 : (i + 1 - i == 1) = true := by simp; omega
          go_enter Tryd.func49, Tryd.ntmps49
          go_wp2
          go_ret3
          exact ⟨_, _, rfl, ⟨_, (by repeat (first | exact Below.refl _ _ | (with_reducible assumption) | apply below_later | apply below_alloc | apply below_drew | apply below_drewN))⟩, rfl, OwnP.nil _ _, OwnP.nil _ _⟩
        · have h5 : k - i = (n : Int) - 1 := by omega
          have h6 : k = i + ((n : Int) - 1) := by omega
          subst h6
          clear hn h5
          have e1 : (i + ((n : Int) - 1) - i == (n : Int) - 1) = true := by simp; omega
          go_enter Tryd.func49, Tryd.ntmps49
          go_wp2
          go_ret3
          exact ⟨_, _, rfl, ⟨_, (by repeat (first | exact Below.refl _ _ | (with_reducible assumption) | apply below_later | apply below_alloc | apply below_drew | apply below_drewN))⟩, rfl, OwnP.nil _ _, OwnP.nil _ _⟩
end Go.Proofs.YticjjikodignfaaDoor
