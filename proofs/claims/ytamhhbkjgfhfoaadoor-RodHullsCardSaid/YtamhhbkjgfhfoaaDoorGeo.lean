/- Plain facts: the program's and the document's words for validity say the same. -/
import Derived.Test.YtamhhbkjgfhfoaaDoorRefValid
import Derived.Test.YtamhhbkjgfhfoaaDoorArea
namespace Go.Proofs.YtamhhbkjgfhfoaaDoor
open Go.RowKit

theorem ltOrGe (a b : Int) : a < b ∨ b ≤ a := by omega
theorem sq_nonneg (a : Int) : 0 ≤ a * a := by
  rcases Int.le_total 0 a with h | h
  · exact Int.mul_nonneg h h
  · have := Int.mul_nonneg (a := -a) (b := -a) (by omega) (by omega)
    rwa [Int.neg_mul_neg] at this

/-- Between: a number lies between two others just where the differences have no one sign. -/
theorem between_iff (a b p : Int) : (min a b ≤ p ∧ p ≤ max a b) ↔ (a - p) * (b - p) ≤ 0 := by
  constructor
  · intro h
    rcases Int.le_total a p with h1 | h1
    · rcases Int.le_total p b with h2 | h2
      · have := Int.mul_nonneg (a := p - a) (b := b - p) (by omega) (by omega)
        have e : (a - p) * (b - p) = -((p - a) * (b - p)) := by grind
        omega
      · have h3 : p = a ∨ p = b := by omega
        rcases h3 with rfl | rfl <;> simp
    · rcases Int.le_total b p with h2 | h2
      · have := Int.mul_nonneg (a := a - p) (b := p - b) (by omega) (by omega)
        have e : (a - p) * (b - p) = -((a - p) * (p - b)) := by grind
        omega
      · have h3 : p = a ∨ p = b := by omega
        rcases h3 with rfl | rfl <;> simp
  · intro h
    rcases ltOrGe p a with h1 | h1
    · rcases ltOrGe p b with h2 | h2
      · have := Int.mul_pos (a := a - p) (b := b - p) (by omega) (by omega)
        omega
      · omega
    · rcases ltOrGe b p with h2 | h2
      · rcases ltOrGe a p with h3 | h3
        · have := Int.mul_pos (a := p - a) (b := p - b) (by omega) (by omega)
          have e : (p - a) * (p - b) = (a - p) * (b - p) := by grind
          omega
        · omega
      · omega

theorem onB_eq (px py ax ay bx b_y : Int) : onB px py ax ay bx b_y = onSideB ax ay bx b_y px py := by
  rw [Bool.eq_iff_iff]
  simp only [onB, onSideB, Bool.and_eq_true, decide_eq_true_eq]
  constructor
  · rintro ⟨hc, ⟨⟨h1, h2⟩, h3⟩, h4⟩
    have b1 := (between_iff ax bx px).1 ⟨h1, h2⟩
    have b2 := (between_iff ay b_y py).1 ⟨h3, h4⟩
    exact ⟨hc, by unfold dotI; omega⟩
  · rintro ⟨hc, hd⟩
    refine ⟨hc, ?_⟩
    have key : ((ax - px) * (bx - px)) * ((ay - py) * (b_y - py)) = ((bx - px) * (ay - py)) * ((bx - px) * (ay - py)) := by
      have : (b_y - py) * (ax - px) = (bx - px) * (ay - py) := by
        unfold crossI at hc
        grind
      grind
    have h0 := sq_nonneg ((bx - px) * (ay - py))
    rw [← key] at h0
    unfold dotI at hd
    have b1 : (ax - px) * (bx - px) ≤ 0 := by
      rcases ltOrGe 0 ((ax - px) * (bx - px)) with h | h
      · have : (ay - py) * (b_y - py) < 0 := by omega
        have := Int.mul_neg_of_pos_of_neg h this
        omega
      · exact h
    have b2 : (ay - py) * (b_y - py) ≤ 0 := by
      rcases ltOrGe 0 ((ay - py) * (b_y - py)) with h | h
      · have h' : (ax - px) * (bx - px) < 0 := by omega
        have := Int.mul_neg_of_pos_of_neg h h'
        rw [Int.mul_comm] at this
        omega
      · exact h
    obtain ⟨x1, x2⟩ := (between_iff ax bx px).2 b1
    obtain ⟨y1, y2⟩ := (between_iff ay b_y py).2 b2
    exact ⟨⟨⟨x1, x2⟩, y1⟩, y2⟩

theorem meetR_eq (ax ay bx b_y cx cy dx dy : Int) : meetR ax ay bx b_y cx cy dx dy = meetB ax ay bx b_y cx cy dx dy := by
  unfold meetR meetB
  simp only [onB_eq]
  rw [Bool.eq_iff_iff]
  simp only [Bool.or_eq_true]
  constructor
  · rintro ((((h | h) | h) | h) | h)
    · exact .inl (.inl (.inr h))
    · exact .inl (.inr h)
    · exact .inl (.inl (.inl (.inl h)))
    · exact .inl (.inl (.inl (.inr h)))
    · exact .inr h
  · rintro ((((h | h) | h) | h) | h)
    · exact .inl (.inl (.inr h))
    · exact .inl (.inr h)
    · exact .inl (.inl (.inl (.inl h)))
    · exact .inl (.inl (.inl (.inr h)))
    · exact .inr h

theorem cross_cyc (ax ay bx b_y cx cy : Int) : crossI bx b_y cx cy ax ay = crossI ax ay bx b_y cx cy := by unfold crossI; grind
theorem cross_swap (ax ay bx b_y cx cy : Int) : crossI bx b_y ax ay cx cy = -crossI ax ay bx b_y cx cy := by unfold crossI; grind

/-- A side turns back at b just where c lies on the side from a to b, or a on the one from b to c. -/
theorem back_iff (ax ay bx b_y cx cy : Int) (hab : ¬ (ax = bx ∧ ay = b_y)) (hbc : ¬ (bx = cx ∧ b_y = cy)) :
    (crossI bx b_y ax ay cx cy = 0 ∧ 0 < dotI bx b_y ax ay cx cy) ↔ (onB cx cy ax ay bx b_y = true ∨ onB ax ay bx b_y cx cy = true) := by
  simp only [onB_eq, onSideB, Bool.and_eq_true, decide_eq_true_eq]
  rw [cross_swap ax ay bx b_y cx cy, cross_cyc ax ay bx b_y cx cy]
  have pos : ∀ u v : Int, ¬ (u = 0 ∧ v = 0) → 0 < u * u + v * v := by
    intro u v h
    have h1 := sq_nonneg u
    have h2 := sq_nonneg v
    by_cases hu : u = 0
    · have hv : v ≠ 0 := fun e => h ⟨hu, e⟩
      have : v * v ≠ 0 := Int.mul_ne_zero hv hv
      omega
    · have : u * u ≠ 0 := Int.mul_ne_zero hu hu
      omega
  have hE := pos (ax - bx) (ay - b_y) (by omega)
  have hF := pos (cx - bx) (cy - b_y) (by omega)
  have i1 : dotI cx cy ax ay bx b_y = ((cx - bx) * (cx - bx) + (cy - b_y) * (cy - b_y)) - dotI bx b_y ax ay cx cy := by unfold dotI; grind
  have i2 : dotI ax ay bx b_y cx cy = ((ax - bx) * (ax - bx) + (ay - b_y) * (ay - b_y)) - dotI bx b_y ax ay cx cy := by unfold dotI; grind
  rw [i1, i2]
  constructor
  · rintro ⟨hc, hd⟩
    have hc' : crossI ax ay bx b_y cx cy = 0 := by omega
    have L : dotI bx b_y ax ay cx cy * dotI bx b_y ax ay cx cy = ((ax - bx) * (ax - bx) + (ay - b_y) * (ay - b_y)) * ((cx - bx) * (cx - bx) + (cy - b_y) * (cy - b_y)) := by
      have h0 : (ax - bx) * (cy - b_y) - (ay - b_y) * (cx - bx) = 0 := by unfold crossI at hc'; grind
      unfold dotI
      grind
    generalize (ax - bx) * (ax - bx) + (ay - b_y) * (ay - b_y) = E at *
    generalize (cx - bx) * (cx - bx) + (cy - b_y) * (cy - b_y) = F at *
    generalize dotI bx b_y ax ay cx cy = D at *
    rcases ltOrGe D F with h | h
    · rcases ltOrGe D E with h' | h'
      · have := Int.mul_lt_mul (a := D) (b := D) (c := E) (d := F) h' (by omega) hd (by omega)
        omega
      · exact .inr ⟨hc', by omega⟩
    · exact .inl ⟨hc', by omega⟩
  · rintro (⟨hc, hd⟩ | ⟨hc, hd⟩)
    · exact ⟨by omega, by omega⟩
    · exact ⟨by omega, by omega⟩

theorem nx_cases {n k : Nat} (hk : k < n) : (k + 1 < n ∧ nx n k = k + 1) ∨ (k + 1 = n ∧ nx n k = 0) := by
  unfold nx
  rcases Nat.lt_or_ge (k + 1) n with h | h
  · exact .inl ⟨h, Nat.mod_eq_of_lt h⟩
  · obtain rfl : n = k + 1 := by omega
    exact .inr ⟨rfl, Nat.mod_self _⟩
theorem pv_cases {n k : Nat} (hk : k < n) : (0 < k ∧ pv n k = k - 1) ∨ (k = 0 ∧ pv n k = n - 1) := by
  unfold pv
  rcases Nat.eq_zero_or_pos k with h | h
  · subst h
    exact .inr ⟨rfl, by rw [Nat.zero_add]; exact Nat.mod_eq_of_lt (by omega)⟩
  · refine .inl ⟨h, ?_⟩
    rw [show k + n - 1 = (k - 1) + n by omega, Nat.add_mod_right]
    exact Nat.mod_eq_of_lt (by omega)
theorem nx_pv {n k : Nat} (hk : k < n) : nx n (pv n k) = k := by
  rcases pv_cases hk with ⟨h, e⟩ | ⟨h, e⟩
  · rcases nx_cases (show pv n k < n by omega) with ⟨_, e2⟩ | ⟨_, e2⟩ <;> omega
  · rcases nx_cases (show pv n k < n by omega) with ⟨_, e2⟩ | ⟨_, e2⟩ <;> omega
theorem pv_nx {n k : Nat} (hk : k < n) : pv n (nx n k) = k := by
  rcases nx_cases hk with ⟨h, e⟩ | ⟨h, e⟩
  · rcases pv_cases (show nx n k < n by omega) with ⟨_, e2⟩ | ⟨_, e2⟩ <;> omega
  · rcases pv_cases (show nx n k < n by omega) with ⟨_, e2⟩ | ⟨_, e2⟩ <;> omega
theorem nx2_nx {n k : Nat} (hk : k < n) (h2 : 2 ≤ n) : nx2 n k = nx n (nx n k) := by
  unfold nx2 nx
  rw [Nat.mod_add_mod]

theorem sameXY_iff {px py : Nat → Int} {i k : Nat} : sameXY px py i k = true ↔ px i = px k ∧ py i = py k := by simp [sameXY]
theorem differ_iff {n : Nat} {px py : Nat → Int} : diffB n px py = true ↔ ∀ i k, i < n → k < n → i ≠ k → ¬ (px i = px k ∧ py i = py k) := by
  unfold diffB
  rw [allB_iff]
  constructor
  · intro h i k hi hk hne he
    rcases Nat.lt_or_ge i k with hlt | hge
    · have := allB_iff.1 (h k hk) i hlt
      rw [sameXY_iff.2 he] at this
      cases this
    · have := allB_iff.1 (h i hi) k (by omega)
      rw [sameXY_iff.2 ⟨he.1.symm, he.2.symm⟩] at this
      cases this
  · intro h k hk
    rw [allB_iff]
    intro i hi
    cases hs : sameXY px py i k with
    | false => rfl
    | true => exact absurd (sameXY_iff.1 hs) (h i k (by omega) hk (by omega))

theorem first_eq (n : Nat) (px py : Nat → Int) : rFirstB n px py = (rangedB n px py && diffB n px py) := by
  rw [Bool.eq_iff_iff, Bool.and_eq_true]
  unfold rFirstB rangedB
  rw [differ_iff, allB_iff, allB_iff]
  constructor
  · intro h
    refine ⟨fun i hi => by have := h i hi; rw [Bool.and_eq_true] at this; exact this.1, fun i k hi hk hne he => ?_⟩
    rcases Nat.lt_or_ge i k with hlt | hge
    · have := h k hk
      rw [Bool.and_eq_true] at this
      have := allB_iff.1 this.2 i hlt
      rw [sameXY_iff.2 ⟨he.1.symm, he.2.symm⟩] at this
      cases this
    · have := h i hi
      rw [Bool.and_eq_true] at this
      have := allB_iff.1 this.2 k (by omega)
      rw [sameXY_iff.2 he] at this
      cases this
  · rintro ⟨h1, h2⟩ i hi
    rw [Bool.and_eq_true]
    refine ⟨h1 i hi, allB_true fun k hk => ?_⟩
    cases hs : sameXY px py i k with
    | false => rfl
    | true => exact absurd (sameXY_iff.1 hs) (h2 i k hi (by omega) (by omega))

theorem corners_eq {n : Nat} {px py : Nat → Int} (h3 : 3 ≤ n) (hd : diffB n px py = true) : allB n (rCornerB n px py) = (noBackB n px py && apartB n px py) := by
  have hd' := differ_iff.1 hd
  have corner : ∀ i, i < n → ((!onB (px (nx2 n i)) (py (nx2 n i)) (px i) (py i) (px (nx n i)) (py (nx n i)) && !onB (px i) (py i) (px (nx n i)) (py (nx n i)) (px (nx2 n i)) (py (nx2 n i))) = true ↔ (!backB n px py (nx n i)) = true) := by
    intro i hi
    have hn1 := nx_lt (n := n) i (by omega)
    have hn2 := nx_lt (n := n) (nx n i) (by omega)
    have e2 := nx2_nx hi (by omega)
    have ne1 : i ≠ nx n i := by rcases nx_cases hi with ⟨_, e⟩ | ⟨_, e⟩ <;> omega
    have ne2 : nx n i ≠ nx n (nx n i) := by rcases nx_cases hn1 with ⟨_, e⟩ | ⟨_, e⟩ <;> omega
    have B := back_iff (px i) (py i) (px (nx n i)) (py (nx n i)) (px (nx2 n i)) (py (nx2 n i)) (hd' _ _ hi hn1 ne1) (by rw [e2]; exact hd' _ _ hn1 hn2 ne2)
    unfold backB
    rw [pv_nx hi, ← e2]
    simp only [Bool.and_eq_true, Bool.not_eq_true', Bool.and_eq_false_iff, decide_eq_false_iff_not]
    constructor
    · rintro ⟨h1, h2⟩
      by_cases hc : crossI (px (nx n i)) (py (nx n i)) (px i) (py i) (px (nx2 n i)) (py (nx2 n i)) = 0
      · by_cases hd : 0 < dotI (px (nx n i)) (py (nx n i)) (px i) (py i) (px (nx2 n i)) (py (nx2 n i))
        · rcases B.1 ⟨hc, hd⟩ with h | h
          · rw [h1] at h; cases h
          · rw [h2] at h; cases h
        · exact .inr hd
      · exact .inl hc
    · intro h
      constructor
      · cases h1 : onB (px (nx2 n i)) (py (nx2 n i)) (px i) (py i) (px (nx n i)) (py (nx n i)) with
        | false => rfl
        | true =>
          have := B.2 (.inl h1)
          rcases h with h | h
          · exact absurd this.1 h
          · exact absurd this.2 h
      · cases h1 : onB (px i) (py i) (px (nx n i)) (py (nx n i)) (px (nx2 n i)) (py (nx2 n i)) with
        | false => rfl
        | true =>
          have := B.2 (.inr h1)
          rcases h with h | h
          · exact absurd this.1 h
          · exact absurd this.2 h
  rw [Bool.eq_iff_iff, Bool.and_eq_true, allB_iff]
  unfold noBackB apartB
  rw [allB_iff, allB_iff]
  constructor
  · intro h
    constructor
    · intro k hk
      have hp := pv_lt (n := n) k (by omega)
      have := h (pv n k) hp
      unfold rCornerB at this
      rw [Bool.and_eq_true] at this
      have := (corner _ hp).1 this.1
      rwa [nx_pv hk] at this
    · intro k hk
      refine allB_true fun i hi => ?_
      cases hn : neighB n i k with
      | true => rfl
      | false =>
        simp only [neighB, Bool.or_eq_false_iff, Bool.and_eq_false_iff, decide_eq_false_iff_not] at hn
        have hik : i + 2 ≤ k := by omega
        have := h i (by omega)
        unfold rCornerB at this
        rw [Bool.and_eq_true] at this
        have := allB_iff.1 this.2 (k - (i + 2)) (by omega)
        rw [show i + 2 + (k - (i + 2)) = k by omega] at this
        unfold rPairB at this
        have hne : (nx n k == i) = false := by
          rcases nx_cases hk with ⟨_, e⟩ | ⟨_, e⟩ <;> simp <;> omega
        rw [hne, Bool.false_or, meetR_eq] at this
        have e : nx n i = i + 1 := by rcases nx_cases (show i < n by omega) with ⟨_, e⟩ | ⟨_, e⟩ <;> omega
        rw [e] at this
        unfold sideMeetB
        rw [Bool.false_or]
        exact this
  · rintro ⟨h1, h2⟩ i hi
    unfold rCornerB
    rw [Bool.and_eq_true]
    refine ⟨(corner i hi).2 (h1 _ (nx_lt _ (by omega))), allB_true fun t ht => ?_⟩
    unfold rPairB
    have hk : i + 2 + t < n := by omega
    have := allB_iff.1 (h2 (i + 2 + t) hk) i (by omega)
    cases hne : (nx n (i + 2 + t) == i) with
    | true => rfl
    | false =>
      have hnn : neighB n i (i + 2 + t) = false := by
        have : nx n (i + 2 + t) ≠ i := by simpa using hne
        simp only [neighB, Bool.or_eq_false_iff, Bool.and_eq_false_iff, decide_eq_false_iff_not]
        rcases nx_cases hk with ⟨_, e⟩ | ⟨_, e⟩ <;> omega
      rw [hnn, Bool.false_or] at this
      unfold sideMeetB at this
      have e : nx n i = i + 1 := by rcases nx_cases hi with ⟨_, e⟩ | ⟨_, e⟩ <;> omega
      rw [Bool.false_or, meetR_eq, e]
      exact this

/-- The document's Valid is the program's. -/
theorem rValid_eq (n : Nat) (px py : Nat → Int) : rValidB n px py = validB n px py := by
  unfold rValidB validB
  rw [first_eq]
  by_cases h3 : 3 ≤ n
  · cases hr : rangedB n px py
    · simp
    · cases hd : diffB n px py
      · simp
      · rw [corners_eq h3 hd]
        simp
  · have : decide (3 ≤ n) = false := by simpa using h3
    rw [this]
    rfl
end Go.Proofs.YtamhhbkjgfhfoaaDoor
