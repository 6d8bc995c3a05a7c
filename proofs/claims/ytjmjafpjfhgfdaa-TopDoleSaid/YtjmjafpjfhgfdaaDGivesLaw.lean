/- The law of gives: walked. -/
import Derived.Test.YtjmjafpjfhgfdaaDRGive
import Derived.Test.YtjmjafpjfhgfdaaDFirst
import Derived.Test.YtjmjafpjfhgfdaaDPicksLaw
namespace Go.Proofs.Ytjmjafpjfhgfdaa
open Go.RowKit

set_option maxRecDepth 100000 in
set_option maxHeartbeats 6400000 in
theorem gives_law (A : Option Addr) (k cap : Nat) (R : Nat → Row) (w : World) (hp : IsTab w A k R) :
    Gives Try.prog 7 #[.slice A k cap] w (.bool true) := by
  have FL := Lib.hid first_law
  have LG := Lib.hid fun (V : World) (h : Below w.heap.size w V) => Long_any k cap A R V (hp.below h)
  cases hl : longB k R
  case true =>
    rw [hl] at LG
    clear hp hl
    go_enter Try.func7, Try.ntmps7
    go_wp2_with (first | (go_at_call 13; with_reducible refine Calls.mono (Gives.calls (LG.out _ (by repeat (first | exact Below.refl _ _ | (with_reducible assumption) | apply below_later | apply below_alloc | apply below_drew | apply below_drewN)))) ?_; rintro e w1 ⟨rfl, z, rfl⟩) | (go_at_call 14; with_reducible refine Calls.mono (Gives.calls (FL.out _)) ?_; rintro e w1 ⟨rfl, z2, rfl⟩))
    go_ret
    exact ⟨rfl, later_of (by repeat (first | exact Below.refl _ _ | (with_reducible assumption) | apply below_later | apply below_alloc | apply below_drew | apply below_drewN))⟩
  case false =>
    rw [hl] at LG
    obtain ⟨hk, hr⟩ := long_facts hl
    clear hl
    cases hv : tabB k R
    case false =>
      have PB := Lib.hid fun (V : World) (h : Below w.heap.size w V) => Give_bad k cap A R V (hp.below h) hv
      have RB := Lib.hid fun (V : World) (h : Below w.heap.size w V) => rGive_bad k cap A R V (fun i hi => by have := hr i hi; omega) (hp.below h) hv
      have SI := Lib.hid fun w' => same_ints none none 0 0 0 (fun _ => 0) (fun _ => 0) w' (by omega) (ints_nil _ _) (ints_nil _ _) fun _ _ => rfl
      clear hp hr hv
      go_enter Try.func7, Try.ntmps7
      go_wp2_with (first
        | (go_at_call 13; with_reducible refine Calls.mono (Gives.calls (LG.out _ (by repeat (first | exact Below.refl _ _ | (with_reducible assumption) | apply below_later | apply below_alloc | apply below_drew | apply below_drewN)))) ?_; rintro e w1 ⟨rfl, z, rfl⟩)
        | (go_at_call 14; with_reducible refine Calls.mono (Gives.calls (FL.out _)) ?_; rintro e w1 ⟨rfl, z2, rfl⟩)
        | (go_at_call 40; with_reducible refine Calls.mono (Gives.calls (PB.out _ (by repeat (first | exact Below.refl _ _ | (with_reducible assumption) | apply below_later | apply below_alloc | apply below_drew | apply below_drewN)))) ?_; rintro e w1 ⟨rfl, z3, rfl⟩)
        | (go_at_call 41; with_reducible refine Calls.mono (Gives.calls (RB.out _ (by repeat (first | exact Below.refl _ _ | (with_reducible assumption) | apply below_later | apply below_alloc | apply below_drew | apply below_drewN)))) ?_; rintro e w1 ⟨rfl, z5, rfl⟩)
        | (go_at_call 23; with_reducible refine Calls.mono (Gives.calls (SI.out _)) ?_; rintro e w1 ⟨rfl, z6, rfl⟩))
      go_ret
      exact ⟨rfl, later_of (by repeat (first | exact Below.refl _ _ | (with_reducible assumption) | apply below_later | apply below_alloc | apply below_drew | apply below_drewN))⟩
    case true =>
      have W := tabB_iff.1 hv
      have hn12 := W.n12
      obtain ⟨gl, g0, g1, g2⟩ := give_ex W _ (Nat.le_refl _)
      have IT : Hid (∀ V, Below w.heap.size w V → Calls Try.prog 40 #[.slice A k cap] V fun e w' => ∃ v, e = .returned (.tuple #[v, .int .i64 0]) ∧ ∃ x : Later V, w' = x.val ∧ OwnI w' V.heap.size v (gl (R 0).n)) := fun V h => Give_ok k cap _ A R gl V W (hp.below h) g0 (fun j hj => (g1 j hj).1) g2
      have RT : Hid (∀ V, Below w.heap.size w V → Calls Try.prog 41 #[.slice A k cap] V fun e w' => ∃ v, e = .returned (.tuple #[v, .int .i64 0]) ∧ ∃ x : Later V, w' = x.val ∧ OwnI w' V.heap.size v (gl (R 0).n)) := fun V h => rGive_ok k cap _ A R gl V W (hp.below h) g0 (fun j hj => (g1 j hj).1) g2
      have LT := Lib.hid (g1 _ (Nat.le_refl _)).1
      have SI := Lib.hid fun (l : List Int) w' A1 c1 B1 c2 (h1 : IsInts w' A1 (R 0).n fun i => l.getD i 0) (h2 : IsInts w' B1 (R 0).n fun i => l.getD i 0) => same_ints A1 B1 (R 0).n c1 c2 _ _ w' (by omega) h1 h2 fun _ _ => rfl
      have SI1 := Lib.hid (SI.out (gl (R 0).n))
      clear g0 g1 g2
      generalize gl (R 0).n = t at *
      generalize (R 0).n = n at *
      clear hp hr hv SI W
      go_enter Try.func7, Try.ntmps7
      go_wp2_with (first
        | (go_at_call 13; with_reducible refine Calls.mono (Gives.calls (LG.out _ (by repeat (first | exact Below.refl _ _ | (with_reducible assumption) | apply below_later | apply below_alloc | apply below_drew | apply below_drewN)))) ?_; rintro e w1 ⟨rfl, z, rfl⟩)
        | (go_at_call 14; with_reducible refine Calls.mono (Gives.calls (FL.out _)) ?_; rintro e w1 ⟨rfl, z2, rfl⟩)
        | (go_at_call 40; with_reducible refine Calls.mono (IT.out _ (by repeat (first | exact Below.refl _ _ | (with_reducible assumption) | apply below_later | apply below_alloc | apply below_drew | apply below_drewN))) ?_; rintro e w1 ⟨v, rfl, z4, rfl, ho⟩; obtain ⟨O, cO, rfl⟩ := ho.shape_n LT.out; have IO := Lib.hid (ho.ints (by rw [LT.out]; omega)).2; clear ho)
        | (go_at_call 41; with_reducible refine Calls.mono (RT.out _ (by repeat (first | exact Below.refl _ _ | (with_reducible assumption) | apply below_later | apply below_alloc | apply below_drew | apply below_drewN))) ?_; rintro e w1 ⟨v, rfl, z5, rfl, ho⟩; obtain ⟨O2, cO2, rfl⟩ := ho.shape_n LT.out; have IO2 := Lib.hid (ho.ints (by rw [LT.out]; omega)).2; clear ho)
        | (go_at_call 23; with_reducible refine Calls.mono (Gives.calls (SI1.out _ _ _ _ _ (IO.out.below (by repeat (first | exact Below.refl _ _ | (with_reducible assumption) | apply below_later | apply below_alloc | apply below_drew | apply below_drewN))) (IO2.out.below (by repeat (first | exact Below.refl _ _ | (with_reducible assumption) | apply below_later | apply below_alloc | apply below_drew | apply below_drewN))))) ?_; rintro e w1 ⟨rfl, z6, rfl⟩))
      go_ret
      exact ⟨rfl, later_of (by repeat (first | exact Below.refl _ _ | (with_reducible assumption) | apply below_later | apply below_alloc | apply below_drew | apply below_drewN))⟩
end Go.Proofs.Ytjmjafpjfhgfdaa
