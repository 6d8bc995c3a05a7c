/- Two lists, two maps, are the same. -/
import Derived.Test.YtajfepogecakbaaDoorRefNbrs
namespace Go.Proofs.YtajfepogecakbaaDoor
open Go.RowKit

set_option maxRecDepth 100000 in
set_option maxHeartbeats 800000 in
theorem same_ints (A B : Option Addr) (n c1 c2 : Nat) (f g : Nat → Int) (w : World) (hn : n ≤ 1000000) (ha : IsInts w A n f) (hb : IsInts w B n g) (he : ∀ i, i < n → f i = g i) :
    Gives Tryd.prog 28 #[.slice A n c1, .slice B n c2] w (.bool true) := by
  have HA := Lib.hid ha
  have HB := Lib.hid hb
  have HE := Lib.hid he
  clear ha hb he
  have q0 : ((n : Int) != (n : Int)) = false := by simp
  go_enter Tryd.func28, Tryd.ntmps28
  go_wp2
  go_loopw [5] (fun u wr => ∃ k : Nat, k ≤ n ∧ u = .int .i64 k ∧ ∃ x : Later w, wr = x.val) (fun v _ => n - (intOf v).toNat)
  case atStart => exact ⟨0, by omega, rfl, later_of (by repeat (first | exact Below.refl _ _ | (with_reducible assumption) | apply below_later | apply below_alloc | apply below_drew | apply below_drewN))⟩
  case round =>
    obtain ⟨k, hk, rfl, x, rfl⟩ := hrel
    by_cases hlt : k < n
    · obtain ⟨b1, o1, hA1, p1⟩ := HA.out.at_ (by omega)
      obtain ⟨b2, o2, hB1, p2⟩ := HB.out.at_ (by omega)
      subst hA1 hB1
      have l1 := p1.lt
      have l2 := p2.lt
      have d1 := p1.at_ k hlt
      have d2 := p2.at_ k hlt
      rw [HE.out k hlt] at d1
      clear p1 p2
      generalize g k = v at *
      go_wp2_with fail
      first | (with_reducible show Code.wp _ _ _ _ (Later.val _); refine wp_region_later_at _ (by kernel_rfl) (by kernel_rfl) ?_) | refine wp_region_later (by kernel_rfl) (by kernel_rfl) ?_
      repeat (go_big_quiet_step ((fail)))
      refine wpQuiet_nil ?_
      intro z5
      go_wp2
      go_roundw
      case rel => exact ⟨k + 1, by omega, by go_num, later_of (by repeat (first | exact Below.refl _ _ | (with_reducible assumption) | apply below_later | apply below_alloc | apply below_drew | apply below_drewN))⟩
      case measure => simp [intOf]; omega
    · obtain rfl : k = n := by omega
      go_wp2
      go_ret
      exact ⟨rfl, later_of (by repeat (first | exact Below.refl _ _ | (with_reducible assumption) | apply below_later | apply below_alloc | apply below_drew | apply below_drewN))⟩
theorem same_maps (W H : Int) (A B : Option Addr) (n c1 c2 : Nat) (f g : Nat → Int) (w : World) (hn : n ≤ 1000000) (ha : IsInts w A n f) (hb : IsInts w B n g) (he : ∀ i, i < n → f i = g i) :
    Gives Tryd.prog 22 #[.agg #[.int .i64 W, .int .i64 H, .slice A n c1], .agg #[.int .i64 W, .int .i64 H, .slice B n c2]] w (.bool true) := by
  have S : Hid (∀ w', IsInts w' A n f → IsInts w' B n g → Gives Tryd.prog 28 #[.slice A n c1, .slice B n c2] w' (.bool true)) := fun w' h1 h2 => same_ints A B n c1 c2 f g w' hn h1 h2 he
  have HA := Lib.hid ha
  have HB := Lib.hid hb
  clear ha hb he
  go_enter Tryd.func22, Tryd.ntmps22
  go_wp2_with (go_at_call 28; (first | (with_reducible show Calls _ _ _ (Later.val _) _; with_reducible refine Calls.mono (Later.call _ (S.out _ (HA.out.later ⟨_, by repeat (first | exact Below.refl _ _ | (with_reducible assumption) | apply below_later | apply below_alloc | apply below_drew | apply below_drewN)⟩) (HB.out.later ⟨_, by repeat (first | exact Below.refl _ _ | (with_reducible assumption) | apply below_later | apply below_alloc | apply below_drew | apply below_drewN)⟩))) ?_) | (with_reducible refine Calls.mono (Gives.calls (S.out _ (HA.out.later ⟨_, by repeat (first | exact Below.refl _ _ | (with_reducible assumption) | apply below_later | apply below_alloc | apply below_drew | apply below_drewN)⟩) (HB.out.later ⟨_, by repeat (first | exact Below.refl _ _ | (with_reducible assumption) | apply below_later | apply below_alloc | apply below_drew | apply below_drewN)⟩))) ?_)); rintro e w1 ⟨rfl, z, rfl⟩)
  go_ret
  exact ⟨rfl, later_of (by repeat (first | exact Below.refl _ _ | (with_reducible assumption) | apply below_later | apply below_alloc | apply below_drew | apply below_drewN))⟩
end Go.Proofs.YtajfepogecakbaaDoor
