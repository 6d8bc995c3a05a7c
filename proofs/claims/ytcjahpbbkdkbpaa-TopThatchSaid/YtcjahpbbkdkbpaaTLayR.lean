/- The document's layers over all inches: walked. -/
import Derived.Test.YtcjahpbbkdkbpaaTAwake
namespace Go.Proofs.Ytcjahpbbkdkbpaa
open Go.RowKit

theorem layN_succ (G R j : Nat) (f : Nat → Nat) (i k : Nat) : layN G R j f i (k + 1) = layN G R j f i k + (if liesB G R j f i k then 1 else 0) := rfl
def layL (G R j S : Nat) (f : Nat → Nat) (k : Nat) : List Int := (List.range S).map fun i => ((layN G R j f i k : Nat) : Int)
theorem layL_length (G R j S : Nat) (f : Nat → Nat) (k : Nat) : (layL G R j S f k).length = S := by simp [layL]
theorem layL_of {G R j S : Nat} {f : Nat → Nat} {k : Nat} {l : List Int} (hl : l.length = S) (h : ∀ i, i < S → l.getD i 0 = ((layN G R j f i k : Nat) : Int)) : l = layL G R j S f k := by
  apply List.ext_getElem
  · rw [hl, layL_length]
  · intro i h1 h2
    have h3 := h i (by omega)
    simp only [List.getD_eq_getElem?_getD, List.getElem?_eq_getElem h1, Option.getD_some] at h3
    rw [h3]
    simp [layL]
theorem layL_get {G R j S : Nat} {f : Nat → Nat} {k i : Nat} (h : i < S) : (layL G R j S f k).getD i 0 = ((layN G R j f i k : Nat) : Int) := by
  simp [layL, List.getD_eq_getElem?_getD, h]
theorem getD_setL {l : List Int} {i j : Nat} {x d : Int} (hi : i < l.length) : (l.set i x).getD j d = if j = i then x else l.getD j d := by
  rw [List.getD_eq_getElem?_getD, List.getElem?_set, List.getD_eq_getElem?_getD]
  by_cases e : i = j
  · subst e; rw [if_pos rfl, if_pos rfl, if_pos hi]; rfl
  · rw [if_neg e, if_neg (by omega)]
theorem has_here {n p k : Nat} {f : Nat → Nat} (h1 : ∀ j, j < p → f j < k) (h2 : ∀ j, p ≤ j → j < n → k ≤ f j) (hm : ∀ i, i + 1 < n → f i < f (i + 1)) : hasN f k n = true ↔ p < n ∧ f p = k := by
  rw [hasN_iff]
  constructor
  · rintro ⟨j, hj, e⟩
    rcases Nat.lt_or_ge j p with h | h
    · have := h1 j h; omega
    · have hp : p < n := by omega
      refine ⟨hp, ?_⟩
      rcases Nat.lt_or_ge p j with h3 | h3
      · have := h2 p (Nat.le_refl _) hp
        have hasc : ∀ d, p + d < n → f p + d ≤ f (p + d) := by
          intro d
          induction d with
          | zero => intro _; exact Nat.le_refl _
          | succ d ih => intro hd; have := ih (by omega); have := hm (p + d) (by omega); show f p + (d + 1) ≤ f (p + d + 1); omega
        have := hasc (j - p) (by omega)
        rw [show p + (j - p) = j by omega] at this
        omega
      · obtain rfl : p = j := by omega
        exact e
  · rintro ⟨hp, e⟩
    exact ⟨p, hp, e⟩
end Go.Proofs.Ytcjahpbbkdkbpaa
