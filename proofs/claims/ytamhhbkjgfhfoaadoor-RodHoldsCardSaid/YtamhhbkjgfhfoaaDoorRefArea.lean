/- The document's own Space, Border, Inside. -/
import Derived.Test.YtamhhbkjgfhfoaaDoorGeo
namespace Go.Proofs.YtamhhbkjgfhfoaaDoor
open Go.RowKit

theorem int_val {a b : Int} (h : a = b) : Value.int .i64 a = Value.int .i64 b := by rw [h]

def fanI (n : Nat) (px py : Nat → Int) : Int := sumN (n - 2) fun t => crossI (px 0) (py 0) (px (t + 1)) (py (t + 1)) (px (t + 2)) (py (t + 2))

theorem fanI_bd {n : Nat} {px py : Nat → Int} (h0 : 3 ≤ n) (hn : n ≤ 40) (hr : ∀ i, i < n → InRange (px i) (py i)) : -400000000 ≤ fanI n px py ∧ fanI n px py ≤ 400000000 :=
  sumN_bd 8000000 _ (n - 2) (fun i hi => crossI_bd (hr 0 (by omega)) (hr (i + 1) (by omega)) (hr (i + 2) (by omega))) (by omega) _ (by omega)

theorem fan_step (ax ay bx b_y cx cy : Int) : crossI ax ay bx b_y cx cy = crossI 0 0 bx b_y cx cy + crossI 0 0 ax ay bx b_y - crossI 0 0 ax ay cx cy := by unfold crossI; grind

/-- The fan from the first post says the sum over all sides. -/
theorem fan_eq {n : Nat} (px py : Nat → Int) (h0 : 3 ≤ n) : fanI n px py = areaI n px py := by
  obtain ⟨m, rfl⟩ : ∃ m, n = m + 2 := ⟨n - 2, by omega⟩
  have key : ∀ k, k ≤ m → sumN k (fun t => crossI (px 0) (py 0) (px (t + 1)) (py (t + 1)) (px (t + 2)) (py (t + 2)))
      = sumN (k + 1) (fun t => crossI 0 0 (px t) (py t) (px (t + 1)) (py (t + 1))) - crossI 0 0 (px 0) (py 0) (px (k + 1)) (py (k + 1)) := by
    intro k
    induction k with
    | zero => intro _; simp only [sumN]; omega
    | succ k ih =>
      intro hk
      have := ih (by omega)
      simp only [sumN] at this ⊢
      rw [this]
      have e := fan_step (px 0) (py 0) (px (k + 1)) (py (k + 1)) (px (k + 2)) (py (k + 2))
      have e2 : k + 1 + 1 = k + 2 := rfl
      rw [e, e2]
      omega
  have h := key m (Nat.le_refl _)
  have hs : ∀ k, k ≤ m + 1 → sumN k (fun t => crossI 0 0 (px t) (py t) (px (nx (m + 2) t)) (py (nx (m + 2) t))) = sumN k (fun t => crossI 0 0 (px t) (py t) (px (t + 1)) (py (t + 1))) := by
    intro k
    induction k with
    | zero => intro _; rfl
    | succ k ih =>
      intro hk
      simp only [sumN]
      rw [ih (by omega)]
      rcases nx_cases (show k < m + 2 by omega) with ⟨_, e⟩ | ⟨e, _⟩
      · rw [e]
      · omega
  unfold fanI areaI
  rw [show m + 2 - 2 = m by omega, h]
  show _ = sumN (m + 1) _ + crossI 0 0 (px (m + 1)) (py (m + 1)) (px (nx (m + 2) (m + 1))) (py (nx (m + 2) (m + 1)))
  rw [hs (m + 1) (Nat.le_refl _)]
  rcases nx_cases (show m + 1 < m + 2 by omega) with ⟨e, _⟩ | ⟨_, e⟩
  · omega
  · rw [e]
    have : crossI 0 0 (px (m + 1)) (py (m + 1)) (px 0) (py 0) = - crossI 0 0 (px 0) (py 0) (px (m + 1)) (py (m + 1)) := by unfold crossI; grind
    rw [this]
    omega
end Go.Proofs.YtamhhbkjgfhfoaaDoor
