/- Rounds, as lists: plain facts. -/
import Derived.Test.YtlljjaafejjeeaaKAwake
namespace Go.Proofs.Ytlljjaafejjeeaa
open Go.RowKit

/-- The sightings of a round. -/
def rowD (n : Nat) (H : Nat → Nat) (d : Nat) : List Nat := (List.range n).filter fun i => decide (H i = d + 1)
/-- The first rounds. -/
def rdsTo (n : Nat) (H : Nat → Nat) (k : Nat) : List (List Int) := (List.range k).map fun d => natZ (rowD n H d)
theorem rdsTo_succ (n : Nat) (H : Nat → Nat) (k : Nat) : rdsTo n H (k + 1) = rdsTo n H k ++ [natZ (rowD n H k)] := by simp [rdsTo, List.range_succ]
theorem rdsTo_length (n : Nat) (H : Nat → Nat) (k : Nat) : (rdsTo n H k).length = k := by simp [rdsTo]
theorem level_some {R : Nat → Nat → Bool} {n : Nat} {μ : Nat → Nat} (D : Down R n μ) : ∀ t, t < grt (hgt R n) n → ∃ i, i < n ∧ hgt R n i = grt (hgt R n) n - t := by
  intro t
  induction t with
  | zero =>
    intro h
    rcases maxTo_at (p := fun _ => true) (g := hgt R n) n with h2 | ⟨j, a, _, c⟩
    · unfold grt at h; omega
    · exact ⟨j, a, c⟩
  | succ t ih =>
    intro h
    obtain ⟨i, hi, e⟩ := ih (by omega)
    obtain ⟨k, hk, _, e2⟩ := hgt_next D hi (by omega)
    exact ⟨k, hk, by omega⟩
theorem rowD_some {R : Nat → Nat → Bool} {n : Nat} {μ : Nat → Nat} (D : Down R n μ) {d : Nat} (h : d < grt (hgt R n) n) : 0 < (rowD n (hgt R n) d).length := by
  obtain ⟨i, hi, e⟩ := level_some D (grt (hgt R n) n - (d + 1)) (by omega)
  have hm : i ∈ rowD n (hgt R n) d := by
    unfold rowD
    simp only [List.mem_filter, List.mem_range, decide_eq_true_eq]
    exact ⟨hi, by omega⟩
  exact List.length_pos_of_mem hm
theorem rowD_none {n : Nat} {H : Nat → Nat} {d : Nat} (h : grt H n ≤ d) : (rowD n H d).length = 0 := by
  have e : rowD n H d = [] := by
    unfold rowD
    rw [List.filter_eq_nil_iff]
    intro i hi
    have h2 := maxTo_ge (p := fun _ => true) (g := H) n i (by simpa using hi) rfl
    unfold grt at h
    simp
    omega
  rw [e]
  rfl
theorem rdsTo_row {n k i : Nat} {H : Nat → Nat} : ((rdsTo n H k).getD i []).length ≤ n := by
  unfold rdsTo
  simp only [List.getD_eq_getElem?_getD, List.getElem?_map]
  by_cases h : i < k
  · rw [List.getElem?_range h]
    simp only [Option.map_some, Option.getD_some]
    rw [natZ_length]
    have := List.length_filter_le (fun j => decide (H j = i + 1)) (List.range n)
    rw [List.length_range] at this
    exact this
  · rw [List.getElem?_eq_none (by simpa using h)]
    simp
end Go.Proofs.Ytlljjaafejjeeaa
