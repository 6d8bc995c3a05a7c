/- SluiceLevels: the walk. -/
import Derived.Test.YtelfinjnbncnlaaSFirst
import Derived.Test.YtelfinjnbncnlaaDepths
import Derived.Test.YtelfinjnbncnlaaSFen
namespace Go.Proofs.Ytelfinjnbncnlaa
open Go.RowKit

theorem least_nat {P : Nat → Prop} : ∀ k, P k → ∃ y, y ≤ k ∧ P y ∧ ∀ z, z < y → ¬ P z := by
  intro k
  induction k using Nat.strongRecOn with
  | _ k ih =>
    intro hk
    rcases Classical.em (∃ z, z < k ∧ P z) with ⟨z, hz, pz⟩ | h
    · obtain ⟨y, h1, h2, h3⟩ := ih z hz pz
      exact ⟨y, by omega, h2, h3⟩
    · exact ⟨k, Nat.le_refl _, hk, fun z hz pz => h ⟨z, hz, pz⟩⟩
/-- Every valid fen has its levels. -/
theorem fen_levels {W H n m : Nat} {f a s : Nat → Int} (hv : validF W H n f m a s = true) : ∃ L, FenL W H n m f a s L := by
  obtain ⟨_, _, a6, _⟩ := valid_facts hv
  have h : ∀ i, i < n → ∃ y : Int, 0 ≤ y ∧ ∀ x, Leaves n (near4 W H) f (slOf m a s) x i ↔ y ≤ x := fun i hi => by
    obtain ⟨y, _, h2, h3⟩ := least_nat (P := fun k => Leaves n (near4 W H) f (slOf m a s) (k : Int) i) 1000 (all_leave hv i hi)
    refine ⟨y, by omega, fun x => ⟨fun hx => ?_, fun hx => h2.more hx⟩⟩
    rcases Int.lt_or_le x y with q | q
    · have := hx.high
      have := a6 i hi
      refine absurd ?_ (h3 x.toNat (by omega))
      show Leaves n (near4 W H) f (slOf m a s) ((x.toNat : Nat) : Int) i
      rw [Int.toNat_of_nonneg (by omega)]
      exact hx
    · exact q
  obtain ⟨L, hL⟩ := pick_lt h
  exact ⟨L, hv, fun i hi x => (hL i hi).2 x, fun i hi => (hL i hi).1⟩
set_option maxHeartbeats 1600000 in
theorem fenLarge_any (W H : Int) (A B : Option Addr) (n cap m capS : Nat) (w : World) : Gives Try.prog 6 #[.agg #[.int .i64 W, .int .i64 H, .slice A n cap, .slice B m capS]] w (.bool (decide (100 < n) || decide (30 < m))) := by
  by_cases h1 : 100 < n
  · have q1 : decide ((100 : Int) < (n : Int)) = true := decide_eq_true (by omega)
    rw [decide_eq_true h1, Bool.true_or]
    go_enter Try.func6, Try.ntmps6
    go_wp2
    go_ret
    exact ⟨rfl, later_of (by repeat (first | exact Below.refl _ _ | (with_reducible assumption) | apply below_later | apply below_alloc | apply below_drew | apply below_drewN))⟩
  · have q1 : decide ((100 : Int) < (n : Int)) = false := decide_eq_false (by omega)
    rw [decide_eq_false h1, Bool.false_or]
    by_cases h2 : 30 < m
    · have q2 : decide ((30 : Int) < (m : Int)) = true := decide_eq_true (by omega)
      rw [decide_eq_true h2]
      go_enter Try.func6, Try.ntmps6
      go_wp2
      go_ret
      exact ⟨rfl, later_of (by repeat (first | exact Below.refl _ _ | (with_reducible assumption) | apply below_later | apply below_alloc | apply below_drew | apply below_drewN))⟩
    · have q2 : decide ((30 : Int) < (m : Int)) = false := decide_eq_false (by omega)
      rw [decide_eq_false h2]
      go_enter Try.func6, Try.ntmps6
      go_wp2
      go_ret
      exact ⟨rfl, later_of (by repeat (first | exact Below.refl _ _ | (with_reducible assumption) | apply below_later | apply below_alloc | apply below_drew | apply below_drewN))⟩
end Go.Proofs.Ytelfinjnbncnlaa
