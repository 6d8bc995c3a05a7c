/- sluice.Lost, sluice.Settle at wrong buckets, the law's Sum: walked. -/
import Derived.Test.YtelfinjnbncnlaaRSettle
namespace Go.Proofs.Ytelfinjnbncnlaa
open Go.RowKit

def sumN (f : Nat → Int) : Nat → Int
  | 0 => 0
  | k + 1 => sumN f k + f k
theorem sumN_sub (f g : Nat → Int) : ∀ k, sumN (fun i => f i - g i) k = sumN f k - sumN g k
  | 0 => rfl
  | k + 1 => by show sumN (fun i => f i - g i) k + (f k - g k) = sumN f k + f k - (sumN g k + g k); rw [sumN_sub f g k]; omega
theorem sumN_low {f : Nat → Int} {n : Nat} {c : Nat} (h : ∀ i, i < n → -(c : Int) ≤ f i ∧ f i ≤ c) : ∀ k, k ≤ n → -((c * k : Nat) : Int) ≤ sumN f k ∧ sumN f k ≤ ((c * k : Nat) : Int)
  | 0, _ => by show -((c * 0 : Nat) : Int) ≤ 0 ∧ (0 : Int) ≤ _; rw [Nat.mul_zero]; omega
  | k + 1, hk => by
    have a := sumN_low h k (by omega)
    have b := h k (by omega)
    show -((c * (k + 1) : Nat) : Int) ≤ sumN f k + f k ∧ sumN f k + f k ≤ _
    rw [Nat.mul_succ]
    omega
set_option maxRecDepth 100000 in
set_option maxHeartbeats 1600000 in
theorem settle_bad (W H : Int) (n cap : Nat) (A : Option Addr) (f : Nat → Int) (w : World) (hp : IsInts w A n f) (hv : bucketsB W H n f = false) :
    Gives Try.prog 22 #[.int .i64 W, .int .i64 H, .slice A n cap] w (.tuple #[.slice none 0 0, .slice none 0 0, .int .i64 31]) := by
  have V : Hid (∀ w', IsInts w' A n f → Gives Try.prog 43 #[.int .i64 W, .int .i64 H, .slice A n cap] w' (.bool false)) := fun w' h => hv ▸ areBuckets_any W H A n cap f w' h
  have HP := Lib.hid hp
  clear hp hv
  go_enter Try.func22, Try.ntmps22
  go_wp2_with (go_at_call 43; (first | (with_reducible show Calls _ _ _ (Later.val _) _; with_reducible refine Calls.mono (Later.call _ (V.out _ (HP.out.later ⟨_, by repeat (first | exact Below.refl _ _ | (with_reducible assumption) | apply below_later | apply below_alloc | apply below_drew | apply below_drewN)⟩))) ?_) | (with_reducible refine Calls.mono (Gives.calls (V.out _ (HP.out.later ⟨_, by repeat (first | exact Below.refl _ _ | (with_reducible assumption) | apply below_later | apply below_alloc | apply below_drew | apply below_drewN)⟩))) ?_)); rintro e w1 ⟨rfl, z, rfl⟩)
  go_ret3
  exact ⟨rfl, later_of (by repeat (first | exact Below.refl _ _ | (with_reducible assumption) | apply below_later | apply below_alloc | apply below_drew | apply below_drewN))⟩
/-- What Lost answers at right buckets. -/
def PostLo (w : World) (W H n : Nat) (f : Nat → Int) (e : Ending) (w' : World) : Prop :=
  ∃ b o k, e = .returned (.tuple #[.int .i64 (sumN f n - sumN (fun i => b.getD i 0) n), .int .i64 0]) ∧ (∃ x : Later w, w' = x.val) ∧ (b, o) = passes W H n ((List.range n).map f, List.replicate n 0) k ∧ (∀ j, j < n → b.getD j 0 < 4) ∧ SV W H n b o
end Go.Proofs.Ytelfinjnbncnlaa
