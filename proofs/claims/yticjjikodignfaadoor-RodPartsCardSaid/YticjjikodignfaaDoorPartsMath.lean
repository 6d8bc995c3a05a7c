/- The greatest divisor that two numbers share, found from above. -/
import Derived.Test.YticjjikodignfaaDoorCutMath
namespace Go.Proofs.YticjjikodignfaaDoor
open Go.RowKit

theorem tmod_zero_iff {d : Int} {c : Nat} : Int.tmod d c = 0 ↔ c ∣ d.natAbs := by
  constructor
  · intro h
    have : (c : Int) ∣ d := Int.dvd_of_tmod_eq_zero h
    exact Int.ofNat_dvd_left.1 this
  · intro h
    exact Int.tmod_eq_zero_of_dvd (Int.ofNat_dvd_left.2 h)
theorem above_not {dx dy : Int} {c : Nat} (h : Nat.gcd dx.natAbs dy.natAbs < c) (h0 : 0 < Nat.gcd dx.natAbs dy.natAbs) (hx : Int.tmod dx c = 0) : ¬ Int.tmod dy c = 0 := by
  intro hy
  have := Nat.dvd_gcd (tmod_zero_iff.1 hx) (tmod_zero_iff.1 hy)
  have := Nat.le_of_dvd h0 this
  omega
theorem gcd_divides (dx dy : Int) : Int.tmod dx (Nat.gcd dx.natAbs dy.natAbs : Nat) = 0 ∧ Int.tmod dy (Nat.gcd dx.natAbs dy.natAbs : Nat) = 0 :=
  ⟨tmod_zero_iff.2 (Nat.gcd_dvd_left _ _), tmod_zero_iff.2 (Nat.gcd_dvd_right _ _)⟩
theorem gcd_le_sum {dx dy : Int} (h : ¬ (dx = 0 ∧ dy = 0)) : 0 < Nat.gcd dx.natAbs dy.natAbs ∧ Nat.gcd dx.natAbs dy.natAbs ≤ dx.natAbs + dy.natAbs := by
  constructor
  · rcases Nat.eq_zero_or_pos (Nat.gcd dx.natAbs dy.natAbs) with h0 | h0
    · rw [Nat.gcd_eq_zero_iff] at h0
      omega
    · exact h0
  · by_cases hx : dx = 0
    · have : 0 < dy.natAbs := by omega
      have := Nat.le_of_dvd this (Nat.gcd_dvd_right dx.natAbs dy.natAbs)
      omega
    · have : 0 < dx.natAbs := by omega
      have := Nat.le_of_dvd this (Nat.gcd_dvd_left dx.natAbs dy.natAbs)
      omega
end Go.Proofs.YticjjikodignfaaDoor
