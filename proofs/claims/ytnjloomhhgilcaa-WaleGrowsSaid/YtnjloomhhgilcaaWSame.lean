/- Two lists are the same (layer 5). -/
import Derived.Test.YtnjloomhhgilcaaWBestPub
namespace Go.Proofs.Ytnjloomhhgilcaa
open Go.RowKit

set_option maxRecDepth 100000 in
set_option maxHeartbeats 800000 in
theorem same_ints (A B : Option Addr) (n c1 c2 : Nat) (f g : Nat → Int) (w : World) (hn : n ≤ 1000000) (ha : IsInts w A n f) (hb : IsInts w B n g) (he : ∀ i, i < n → f i = g i) :
    Gives Try.prog 14 #[.slice A n c1, .slice B n c2] w (.bool true) := by
  have HA := Lib.hid ha
  have HB := Lib.hid hb
  have HE := Lib.hid he
  clear ha hb he
  have q0 : ((n : Int) != (n : Int)) = false := by simp
  go_enter Try.func14, Try.ntmps14
  go_wp2
  go_loopw [5] (fun u wr => ∃ k : Nat, k ≤ n ∧ u = .int .i64 k ∧ ∃ x : Later w, wr = x.val) (fun v _ => n - (intOf v).toNat)
  case atStart => exact ⟨0, by omega, rfl, later_of (by repeat (first | exact Below.refl _ _ | (with_reducible assumption) | apply below_later | apply below_alloc | apply below_drew | apply below_drewN))⟩
  case round =>
    obtain ⟨k, hk, rfl, x, rfl⟩ := hrel
    by_cases hlt : k < n
    · obtain ⟨b1, o1, hA1, p1⟩ := HA.out.at_ (by omega)
      obtain ⟨b2, o2, hB1, p2⟩ := HB.out.at_ (by omega)
      subst hA1 hB1
      have l1 := p1.lt
      have l2 := p2.lt
      have d1 := p1.at_ k hlt
      have d2 := p2.at_ k hlt
      rw [HE.out k hlt] at d1
      clear p1 p2
      generalize g k = v at *
      go_wp2_with fail
      first | (with_reducible show Code.wp _ _ _ _ (Later.val _); refine wp_region_later_at _ (by kernel_rfl) (by kernel_rfl) ?_) | refine wp_region_later (by kernel_rfl) (by kernel_rfl) ?_
      repeat (go_big_quiet_step ((fail)))
      refine wpQuiet_nil ?_
      intro z5
      go_wp2
      go_roundw
      case rel => exact ⟨k + 1, by omega, by go_num, later_of (by repeat (first | exact Below.refl _ _ | (with_reducible assumption) | apply below_later | apply below_alloc | apply below_drew | apply below_drewN))⟩
      case measure => simp [intOf]; omega
    · obtain rfl : k = n := by omega
      go_wp2
      go_ret
      exact ⟨rfl, later_of (by repeat (first | exact Below.refl _ _ | (with_reducible assumption) | apply below_later | apply below_alloc | apply below_drew | apply below_drewN))⟩
set_option maxRecDepth 100000 in
/-- A list of changes that is too long is not valid, whatever lies in it. -/
theorem rvalid_long (n : Int) (A : Option Addr) (m cap : Nat) (w : World) (hm : 40 < m) :
    Gives Try.prog 12 #[.int .i64 n, .slice A m cap] w (.bool false) := by
  have WI : Hid (∀ (a lo hi : Int) (w : World), Gives Try.prog 40 #[.int .i64 a, .int .i64 lo, .int .i64 hi] w (.bool (decide (lo ≤ a) && decide (a ≤ hi)))) := within_any
  have W1 : Hid (∀ w, Gives Try.prog 40 #[.int .i64 n, .int .i64 1, .int .i64 8] w (.bool (decide (1 ≤ n) && decide (n ≤ 8)))) := fun w => WI.out n 1 8 w
  clear WI
  generalize (decide (1 ≤ n) && decide (n ≤ 8)) = b at *
  cases b
  · go_enter Try.func12, Try.ntmps12
    go_wp2_with (go_at_call 40; with_reducible refine Calls.mono (Gives.calls (W1.out _)) ?_; rintro e w1 ⟨rfl, z, rfl⟩)
    go_ret
    exact ⟨rfl, later_of (by repeat (first | exact Below.refl _ _ | (with_reducible assumption) | apply below_later | apply below_alloc | apply below_drew | apply below_drewN))⟩
  · go_enter Try.func12, Try.ntmps12
    go_wp2_with (go_at_call 40; with_reducible refine Calls.mono (Gives.calls (W1.out _)) ?_; rintro e w1 ⟨rfl, z, rfl⟩)
    go_ret
    exact ⟨rfl, later_of (by repeat (first | exact Below.refl _ _ | (with_reducible assumption) | apply below_later | apply below_alloc | apply below_drew | apply below_drewN))⟩
end Go.Proofs.Ytnjloomhhgilcaa
