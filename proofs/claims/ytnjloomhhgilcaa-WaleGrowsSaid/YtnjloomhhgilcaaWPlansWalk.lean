/- WalePlans, walked. -/
import Derived.Test.YtnjloomhhgilcaaWPlansLaw
namespace Go.Proofs.Ytnjloomhhgilcaa
open Go.RowKit

theorem IsChs.congr {w : World} {A : Option Addr} {m : Nat} {F T V F' T' : Nat → Int} (h : IsChs w A m F T V) (e : ∀ i, i < m → F i = F' i ∧ T i = T' i) : IsChs w A m F' T' V :=
  ⟨h.small, fun h0 => let ⟨b, off, ea, hp⟩ := h.at_ h0; ⟨b, off, ea, hp.lt, fun i hi => by rw [← (e i hi).1]; exact hp.f i hi, fun i hi => by rw [← (e i hi).2]; exact hp.t i hi, hp.v⟩⟩
theorem valid_rot {n : Int} {m : Nat} {F T V : Nat → Int} (h : validR n m F T V = true) : ∃ (N : Nat) (f t : Nat → Nat), n = N ∧ Rot N m f t V ∧ ∀ i, i < m → F i = (f i : Nat) ∧ T i = (t i : Nat) := by
  unfold validR at h
  simp only [Bool.and_eq_true, decide_eq_true_eq] at h
  obtain ⟨⟨h1, h2⟩, h3, h4⟩ := h
  have h5 := allB_iff.1 h4
  have h6 : ∀ i, i < m → (0 ≤ F i ∧ F i < n) ∧ (0 ≤ T i ∧ T i < n) ∧ -1000 ≤ V i ∧ V i ≤ 1000 := fun i hi => by
    have := h5 i hi
    unfold okC inS at this
    simp only [Bool.and_eq_true, decide_eq_true_eq] at this
    omega
  refine ⟨n.toNat, fun i => (F i).toNat, fun i => (T i).toNat, by omega, ⟨by omega, by omega, h3, fun i hi => ?_, fun i hi => ?_, fun i hi => (h6 i hi).2.2⟩, fun i hi => ?_⟩
  all_goals
    have := h6 i hi
    try dsimp only
    omega
end Go.Proofs.Ytnjloomhhgilcaa
