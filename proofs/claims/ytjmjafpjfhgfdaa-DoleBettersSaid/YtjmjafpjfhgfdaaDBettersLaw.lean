/- The law of what is better: walked. -/
import Derived.Test.YtjmjafpjfhgfdaaDBetter
import Derived.Test.YtjmjafpjfhgfdaaDRef
import Derived.Test.YtjmjafpjfhgfdaaDFirst
namespace Go.Proofs.Ytjmjafpjfhgfdaa
open Go.RowKit

set_option maxRecDepth 100000 in
set_option maxHeartbeats 6400000 in
theorem betters_law (A S1 S2 : Option Addr) (k cap m1 c1 m2 c2 : Nat) (R : Nat → Row) (a b : Nat → Int) (w : World) (hp : IsTab w A k R) (ha : IsInts w S1 m1 a) (hb : IsInts w S2 m2 b) :
    Gives Try.prog 9 #[.slice A k cap, .slice S1 m1 c1, .slice S2 m2 c2] w (.bool true) := by
  have FL := Lib.hid first_law
  have LG := Lib.hid fun (V : World) (h : Below w.heap.size w V) => Long_any k cap A R V (hp.below h)
  cases hl : longB k R
  case true =>
    rw [hl] at LG
    clear hp ha hb hl
    go_enter Try.func9, Try.ntmps9
    go_wp2_with (first | (go_at_call 13; with_reducible refine Calls.mono (Gives.calls (LG.out _ (by repeat (first | exact Below.refl _ _ | (with_reducible assumption) | apply below_later | apply below_alloc | apply below_drew | apply below_drewN)))) ?_; rintro e w1 ⟨rfl, z, rfl⟩) | (go_at_call 14; with_reducible refine Calls.mono (Gives.calls (FL.out _)) ?_; rintro e w1 ⟨rfl, z2, rfl⟩))
    go_ret
    exact ⟨rfl, later_of (by repeat (first | exact Below.refl _ _ | (with_reducible assumption) | apply below_later | apply below_alloc | apply below_drew | apply below_drewN))⟩
  case false =>
    rw [hl] at LG
    obtain ⟨hk, hr⟩ := long_facts hl
    clear hl
    by_cases hm : 30 < m1
    · have e1 : decide ((30 : Int) < (m1 : Int)) = true := by simp; omega
      clear hp ha hb hr
      go_enter Try.func9, Try.ntmps9
      go_wp2_with (first | (go_at_call 13; with_reducible refine Calls.mono (Gives.calls (LG.out _ (by repeat (first | exact Below.refl _ _ | (with_reducible assumption) | apply below_later | apply below_alloc | apply below_drew | apply below_drewN)))) ?_; rintro e w1 ⟨rfl, z, rfl⟩) | (go_at_call 14; with_reducible refine Calls.mono (Gives.calls (FL.out _)) ?_; rintro e w1 ⟨rfl, z2, rfl⟩))
      go_ret
      exact ⟨rfl, later_of (by repeat (first | exact Below.refl _ _ | (with_reducible assumption) | apply below_later | apply below_alloc | apply below_drew | apply below_drewN))⟩
    · have e1 : decide ((30 : Int) < (m1 : Int)) = false := by simp; omega
      by_cases hm2 : 30 < m2
      · have e2 : decide ((30 : Int) < (m2 : Int)) = true := by simp; omega
        clear hp ha hb hr
        go_enter Try.func9, Try.ntmps9
        go_wp2_with (first | (go_at_call 13; with_reducible refine Calls.mono (Gives.calls (LG.out _ (by repeat (first | exact Below.refl _ _ | (with_reducible assumption) | apply below_later | apply below_alloc | apply below_drew | apply below_drewN)))) ?_; rintro e w1 ⟨rfl, z, rfl⟩) | (go_at_call 14; with_reducible refine Calls.mono (Gives.calls (FL.out _)) ?_; rintro e w1 ⟨rfl, z2, rfl⟩))
        go_ret
        exact ⟨rfl, later_of (by repeat (first | exact Below.refl _ _ | (with_reducible assumption) | apply below_later | apply below_alloc | apply below_drew | apply below_drewN))⟩
      · have e2 : decide ((30 : Int) < (m2 : Int)) = false := by simp; omega
        have W1 := Lib.hid fun (V : World) (h : Below w.heap.size w V) => why_any k cap m1 c1 A S1 R a V (fun i hi => by have := hr i hi; omega) (by omega) (hp.below h) (ha.below h)
        have W2 := Lib.hid fun (V : World) (h : Below w.heap.size w V) => why_any k cap m2 c2 A S2 R b V (fun i hi => by have := hr i hi; omega) (by omega) (hp.below h) (hb.below h)
        by_cases h1 : errE k R m1 a = 0
        · rw [h1] at W1
          by_cases h2 : errE k R m2 b = 0
          · rw [h2] at W2
            obtain ⟨W, hn1, _⟩ := errE_ok h1
            obtain ⟨_, hn2, _⟩ := errE_ok h2
            obtain rfl : m2 = m1 := by omega
            have BE := Lib.hid fun (V : World) (h : Below w.heap.size w V) => Better_ok k cap m2 c1 c2 A S1 S2 R a b V (hp.below h) (ha.below h) (hb.below h) h1 h2
            have RB := Lib.hid fun (V : World) (h : Below w.heap.size w V) => rBetter_any k cap (R 0).n m2 c1 c2 A S1 S2 R a b V (by omega) W (hp.below h) (ha.below h) (hb.below h)
            generalize betT R a b m2 k = res at *
            clear hp ha hb hr h1 h2 W hn1 hn2
            go_enter Try.func9, Try.ntmps9
            go_wp2_with (first
              | (go_at_call 13; with_reducible refine Calls.mono (Gives.calls (LG.out _ (by repeat (first | exact Below.refl _ _ | (with_reducible assumption) | apply below_later | apply below_alloc | apply below_drew | apply below_drewN)))) ?_; rintro e w1 ⟨rfl, z, rfl⟩)
              | (go_at_call 14; with_reducible refine Calls.mono (Gives.calls (FL.out _)) ?_; rintro e w1 ⟨rfl, z2, rfl⟩)
              | (go_at_call 47; with_reducible refine Calls.mono (Gives.calls (BE.out _ (by repeat (first | exact Below.refl _ _ | (with_reducible assumption) | apply below_later | apply below_alloc | apply below_drew | apply below_drewN)))) ?_; rintro e w1 ⟨rfl, z3, rfl⟩)
              | (go_at_call 48; with_reducible refine Calls.mono (Gives.calls (RB.out _ (by repeat (first | exact Below.refl _ _ | (with_reducible assumption) | apply below_later | apply below_alloc | apply below_drew | apply below_drewN)))) ?_; rintro e w1 ⟨rfl, z4, rfl⟩)
              | (go_at_call 19; with_reducible refine Calls.mono (Gives.calls (W1.out _ (by repeat (first | exact Below.refl _ _ | (with_reducible assumption) | apply below_later | apply below_alloc | apply below_drew | apply below_drewN)))) ?_; rintro e w1 ⟨rfl, z5, rfl⟩)
              | (go_at_call 19; with_reducible refine Calls.mono (Gives.calls (W2.out _ (by repeat (first | exact Below.refl _ _ | (with_reducible assumption) | apply below_later | apply below_alloc | apply below_drew | apply below_drewN)))) ?_; rintro e w1 ⟨rfl, z6, rfl⟩))
            go_ret
            exact ⟨ret_bool (by simp), later_of (by repeat (first | exact Below.refl _ _ | (with_reducible assumption) | apply below_later | apply below_alloc | apply below_drew | apply below_drewN))⟩
          · have hT : errT k R m1 a m2 b = errE k R m2 b := by unfold errT; rw [if_pos h1]
            have BE := Lib.hid fun (V : World) (h : Below w.heap.size w V) => Better_bad k cap m1 c1 m2 c2 A S1 S2 R a b V (hp.below h) (ha.below h) (hb.below h) (by rw [hT]; exact h2)
            rw [hT] at BE
            generalize errE k R m2 b = E at *
            have g1 : (E != 0) = true := by simpa using h2
            clear hp ha hb hr h1 h2 hT
            go_enter Try.func9, Try.ntmps9
            go_wp2_with (first
              | (go_at_call 13; with_reducible refine Calls.mono (Gives.calls (LG.out _ (by repeat (first | exact Below.refl _ _ | (with_reducible assumption) | apply below_later | apply below_alloc | apply below_drew | apply below_drewN)))) ?_; rintro e w1 ⟨rfl, z, rfl⟩)
              | (go_at_call 14; with_reducible refine Calls.mono (Gives.calls (FL.out _)) ?_; rintro e w1 ⟨rfl, z2, rfl⟩)
              | (go_at_call 47; with_reducible refine Calls.mono (Gives.calls (BE.out _ (by repeat (first | exact Below.refl _ _ | (with_reducible assumption) | apply below_later | apply below_alloc | apply below_drew | apply below_drewN)))) ?_; rintro e w1 ⟨rfl, z3, rfl⟩)
              | (go_at_call 19; with_reducible refine Calls.mono (Gives.calls (W1.out _ (by repeat (first | exact Below.refl _ _ | (with_reducible assumption) | apply below_later | apply below_alloc | apply below_drew | apply below_drewN)))) ?_; rintro e w1 ⟨rfl, z5, rfl⟩)
              | (go_at_call 19; with_reducible refine Calls.mono (Gives.calls (W2.out _ (by repeat (first | exact Below.refl _ _ | (with_reducible assumption) | apply below_later | apply below_alloc | apply below_drew | apply below_drewN)))) ?_; rintro e w1 ⟨rfl, z6, rfl⟩))
            go_ret
            exact ⟨ret_bool (by simp), later_of (by repeat (first | exact Below.refl _ _ | (with_reducible assumption) | apply below_later | apply below_alloc | apply below_drew | apply below_drewN))⟩
        · have hT : errT k R m1 a m2 b = errE k R m1 a := by unfold errT; rw [if_neg h1]
          have BE := Lib.hid fun (V : World) (h : Below w.heap.size w V) => Better_bad k cap m1 c1 m2 c2 A S1 S2 R a b V (hp.below h) (ha.below h) (hb.below h) (by rw [hT]; exact h1)
          rw [hT] at BE
          generalize errE k R m1 a = E at *
          have g1 : (E != 0) = true := by simpa using h1
          have g2 : (E == 0) = false := by simpa using h1
          clear hp ha hb hr h1 hT
          go_enter Try.func9, Try.ntmps9
          go_wp2_with (first
            | (go_at_call 13; with_reducible refine Calls.mono (Gives.calls (LG.out _ (by repeat (first | exact Below.refl _ _ | (with_reducible assumption) | apply below_later | apply below_alloc | apply below_drew | apply below_drewN)))) ?_; rintro e w1 ⟨rfl, z, rfl⟩)
            | (go_at_call 14; with_reducible refine Calls.mono (Gives.calls (FL.out _)) ?_; rintro e w1 ⟨rfl, z2, rfl⟩)
            | (go_at_call 47; with_reducible refine Calls.mono (Gives.calls (BE.out _ (by repeat (first | exact Below.refl _ _ | (with_reducible assumption) | apply below_later | apply below_alloc | apply below_drew | apply below_drewN)))) ?_; rintro e w1 ⟨rfl, z3, rfl⟩)
            | (go_at_call 19; with_reducible refine Calls.mono (Gives.calls (W1.out _ (by repeat (first | exact Below.refl _ _ | (with_reducible assumption) | apply below_later | apply below_alloc | apply below_drew | apply below_drewN)))) ?_; rintro e w1 ⟨rfl, z5, rfl⟩))
          go_ret
          exact ⟨ret_bool (by simp), later_of (by repeat (first | exact Below.refl _ _ | (with_reducible assumption) | apply below_later | apply below_alloc | apply below_drew | apply below_drewN))⟩
end Go.Proofs.Ytjmjafpjfhgfdaa
