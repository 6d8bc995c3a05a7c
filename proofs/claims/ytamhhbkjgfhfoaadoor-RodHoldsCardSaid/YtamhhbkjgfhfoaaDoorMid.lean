/- Plain facts on sides: a corner between two others on one line; what meets the whole side meets a part of it. -/
import Derived.Test.YtamhhbkjgfhfoaaDoorGeo
namespace Go.Proofs.YtamhhbkjgfhfoaaDoor
open Go.RowKit

theorem dvd_of_coprime {a b c : Int} (h : a ∣ b * c) (hg : Int.gcd a b = 1) : a ∣ c := by
  rw [← Int.natAbs_dvd_natAbs] at h ⊢
  rw [Int.natAbs_mul] at h
  rw [Int.gcd_eq_natAbs_gcd_natAbs] at hg
  exact Nat.Coprime.dvd_of_dvd_mul_left hg h
/-- Two vectors on one line in one direction are positive multiples of one vector. -/
theorem multiples (ux uy vx vy : Int) (hu : ¬ (ux = 0 ∧ uy = 0)) (hv : ¬ (vx = 0 ∧ vy = 0)) (hc : ux * vy = uy * vx) (hd : 0 ≤ ux * vx + uy * vy) :
    ∃ s t dx dy : Int, 0 < s ∧ 0 < t ∧ ux = s * dx ∧ uy = s * dy ∧ vx = t * dx ∧ vy = t * dy ∧ Int.gcd dx dy = 1 := by
  have hg : 0 < Int.gcd ux uy := by
    rcases Nat.eq_zero_or_pos (Int.gcd ux uy) with h | h
    · rw [Int.gcd_eq_zero_iff] at h; exact absurd h hu
    · exact h
  obtain ⟨dx, hx⟩ := Int.gcd_dvd_left ux uy
  obtain ⟨dy, hy⟩ := Int.gcd_dvd_right ux uy
  generalize hG : (Int.gcd ux uy : Nat) = g at *
  have hg1 : (0 : Int) < (g : Int) := by omega
  have hp : Int.gcd dx dy = 1 := by
    have := Int.gcd_mul_left (g : Int) dx dy
    rw [← hx, ← hy, hG] at this
    simp at this
    have h2 : g * 1 = g * Int.gcd dx dy := by omega
    exact (Nat.eq_of_mul_eq_mul_left hg h2).symm
  have hc' : dx * vy = dy * vx := by
    have : (g : Int) * (dx * vy) = (g : Int) * (dy * vx) := by
      have e1 : (g : Int) * (dx * vy) = ux * vy := by rw [hx]; grind
      have e2 : (g : Int) * (dy * vx) = uy * vx := by rw [hy]; grind
      rw [e1, e2, hc]
    exact Int.eq_of_mul_eq_mul_left (by omega) this
  -- v is a multiple of d
  have hm : ∃ t, vx = t * dx ∧ vy = t * dy := by
    have h1 : dx ∣ dy * vx := ⟨vy, hc'.symm⟩
    have h2 : dx ∣ vx := dvd_of_coprime h1 hp
    have h3 : dy ∣ dx * vy := ⟨vx, hc'⟩
    have h4 : dy ∣ vy := dvd_of_coprime h3 (by rw [Int.gcd_comm]; exact hp)
    by_cases h0 : dx = 0
    · subst h0
      obtain ⟨t, ht⟩ := h4
      obtain ⟨r, hr⟩ := h2
      exact ⟨t, by rw [hr]; simp, by rw [ht, Int.mul_comm]⟩
    · obtain ⟨t, ht⟩ := h2
      refine ⟨t, by rw [ht, Int.mul_comm], ?_⟩
      have : dx * vy = dx * (t * dy) := by rw [hc', ht]; grind
      exact Int.eq_of_mul_eq_mul_left h0 this
  obtain ⟨t, ht1, ht2⟩ := hm
  have hd0 : ¬ (dx = 0 ∧ dy = 0) := fun ⟨h1, h2⟩ => by subst h1 h2; exact absurd hp (by decide)
  have hq : 0 < dx * dx + dy * dy := by
    have h1 : 0 ≤ dx * dx := by
      rcases Int.le_total 0 dx with h | h
      · exact Int.mul_nonneg h h
      · have := Int.mul_nonneg (a := -dx) (b := -dx) (by omega) (by omega); rwa [Int.neg_mul_neg] at this
    have h2 : 0 ≤ dy * dy := by
      rcases Int.le_total 0 dy with h | h
      · exact Int.mul_nonneg h h
      · have := Int.mul_nonneg (a := -dy) (b := -dy) (by omega) (by omega); rwa [Int.neg_mul_neg] at this
    by_cases h : dx = 0
    · have h3 : dy ≠ 0 := fun e => hd0 ⟨h, e⟩
      have : dy * dy ≠ 0 := Int.mul_ne_zero h3 h3
      omega
    · have : dx * dx ≠ 0 := Int.mul_ne_zero h h
      omega
  have ht0 : t ≠ 0 := fun e => hv (by subst e; simp at ht1 ht2; exact ⟨ht1, ht2⟩)
  have htp : 0 < t := by
    rcases ltOrGe 0 t with h | h
    · exact h
    · exfalso
      have e : ux * vx + uy * vy = (g : Int) * (t * (dx * dx + dy * dy)) := by rw [hx, hy, ht1, ht2]; grind
      have h1 : t * (dx * dx + dy * dy) < 0 := Int.mul_neg_of_neg_of_pos (by omega) hq
      have h2 : (g : Int) * (t * (dx * dx + dy * dy)) < 0 := Int.mul_neg_of_pos_of_neg hg1 h1
      omega
  exact ⟨g, t, dx, dy, hg1, htp, hx, hy, ht1, ht2, hp⟩

theorem sign_cases (n : Int) : (0 < n ∧ signI n = 1) ∨ (n = 0 ∧ signI n = 0) ∨ (n < 0 ∧ signI n = -1) := by unfold signI; omega
theorem sign_mul {s n : Int} (hs : 0 < s) : signI (s * n) = signI n := by
  rcases sign_cases n with ⟨h, e⟩ | ⟨h, e⟩ | ⟨h, e⟩
  · have := Int.mul_pos hs h; rw [e]; unfold signI; omega
  · subst h; simp
  · have := Int.mul_neg_of_pos_of_neg hs h; rw [e]; unfold signI; omega
theorem mul_zero_iff {s n : Int} (hs : 0 < s) : s * n = 0 ↔ n = 0 := by
  constructor
  · intro h; rcases Int.mul_eq_zero.1 h with h | h <;> omega
  · rintro rfl; simp
theorem mul_le_iff {s n : Int} (hs : 0 < s) : s * n ≤ 0 ↔ n ≤ 0 := by
  constructor
  · intro h
    rcases ltOrGe 0 n with h1 | h1
    · have := Int.mul_pos hs h1; omega
    · exact h1
  · intro h
    rcases ltOrGe n 0 with h1 | h1
    · have := Int.mul_neg_of_pos_of_neg hs h1; omega
    · have : n = 0 := by omega
      subst this; simp
theorem mul_pos_iff {s n : Int} (hs : 0 < s) : 0 < s * n ↔ 0 < n := by
  have := mul_le_iff (s := s) (n := n) hs; omega

/-- b lies between a and c: b = a + s d, c = b + t d. -/
structure Mid (ax ay bx b_y cx cy : Int) : Type where
  s : Int
  t : Int
  dx : Int
  dy : Int
  hs : 0 < s
  ht : 0 < t
  e1 : bx = ax + s * dx
  e2 : b_y = ay + s * dy
  e3 : cx = ax + (s + t) * dx
  e4 : cy = ay + (s + t) * dy
  prim : Int.gcd dx dy = 1

theorem mid_of {ax ay bx b_y cx cy : Int} (hab : ¬ (ax = bx ∧ ay = b_y)) (hbc : ¬ (bx = cx ∧ b_y = cy)) (hc : crossI ax ay bx b_y cx cy = 0) (hd : dotI bx b_y ax ay cx cy ≤ 0) : Nonempty (Mid ax ay bx b_y cx cy) := by
  obtain ⟨s, t, dx, dy, hs, ht, h1, h2, h3, h4, h5⟩ := multiples (bx - ax) (b_y - ay) (cx - bx) (cy - b_y) (by omega) (by omega) (by unfold crossI at hc; grind) (by unfold dotI at hd; grind)
  exact ⟨⟨s, t, dx, dy, hs, ht, by omega, by omega, by rw [Int.add_mul]; omega, by rw [Int.add_mul]; omega, h5⟩⟩

section
variable {ax ay bx b_y cx cy : Int}

/-- What a point sees of the line through a and c. -/
def seen (m : Mid ax ay bx b_y cx cy) (x y : Int) : Int := m.dx * (y - ay) - m.dy * (x - ax)
theorem cross_ac (m : Mid ax ay bx b_y cx cy) (x y : Int) : crossI ax ay cx cy x y = (m.s + m.t) * seen m x y := by
  have := m.e3; have := m.e4; unfold crossI seen; grind
theorem cross_ab (m : Mid ax ay bx b_y cx cy) (x y : Int) : crossI ax ay bx b_y x y = m.s * seen m x y := by
  have := m.e1; have := m.e2; unfold crossI seen; grind
theorem cross_bc (m : Mid ax ay bx b_y cx cy) (x y : Int) : crossI bx b_y cx cy x y = m.t * seen m x y := by
  have := m.e1; have := m.e2; have := m.e3; have := m.e4; unfold crossI seen; grind
theorem cross_at (m : Mid ax ay bx b_y cx cy) (px py qx qy : Int) : (m.s + m.t) * crossI px py qx qy bx b_y = m.t * crossI px py qx qy ax ay + m.s * crossI px py qx qy cx cy := by
  have := m.e1; have := m.e2; have := m.e3; have := m.e4; unfold crossI; grind

theorem sum_pos (m : Mid ax ay bx b_y cx cy) : 0 < m.s + m.t := by have := m.hs; have := m.ht; omega

theorem prim_pos {dx dy : Int} (h : Int.gcd dx dy = 1) : 0 < dx * dx + dy * dy := by
  have sq : ∀ a : Int, 0 ≤ a * a := fun a => by
    rcases Int.le_total 0 a with h | h
    · exact Int.mul_nonneg h h
    · have := Int.mul_nonneg (a := -a) (b := -a) (by omega) (by omega); rwa [Int.neg_mul_neg] at this
  have h1 := sq dx
  have h2 := sq dy
  by_cases h0 : dx = 0
  · have h3 : dy ≠ 0 := fun e => by rw [h0, e] at h; exact absurd h (by decide)
    have : dy * dy ≠ 0 := Int.mul_ne_zero h3 h3
    omega
  · have : dx * dx ≠ 0 := Int.mul_ne_zero h0 h0
    omega

/-- On the whole, so on a part. -/
theorem on_parts (m : Mid ax ay bx b_y cx cy) {x y : Int} (h : onSideB ax ay cx cy x y = true) : onSideB ax ay bx b_y x y = true ∨ onSideB bx b_y cx cy x y = true := by
  simp only [onSideB, Bool.and_eq_true, decide_eq_true_eq] at h ⊢
  obtain ⟨h1, h2⟩ := h
  rw [cross_ac m, mul_zero_iff (sum_pos m)] at h1
  rw [cross_ab m, cross_bc m, mul_zero_iff m.hs, mul_zero_iff m.ht]
  -- the point is a + r d
  have hx : ∃ r, x = ax + r * m.dx ∧ y = ay + r * m.dy := by
    have hc : m.dx * (y - ay) = m.dy * (x - ax) := by unfold seen at h1; omega
    have d1 : m.dx ∣ (x - ax) := dvd_of_coprime (b := m.dy) ⟨y - ay, hc.symm⟩ m.prim
    have d2 : m.dy ∣ (y - ay) := dvd_of_coprime (b := m.dx) ⟨x - ax, hc⟩ (by rw [Int.gcd_comm]; exact m.prim)
    by_cases h0 : m.dx = 0
    · obtain ⟨r, hr⟩ := d2
      obtain ⟨q, hq⟩ := d1
      exact ⟨r, by rw [h0] at hq ⊢; simp at hq ⊢; omega, by rw [Int.mul_comm] at hr; omega⟩
    · obtain ⟨r, hr⟩ := d1
      have : m.dx * (y - ay) = m.dx * (r * m.dy) := by rw [hc, hr]; grind
      have := Int.eq_of_mul_eq_mul_left h0 this
      exact ⟨r, by rw [Int.mul_comm] at hr; omega, by omega⟩
  obtain ⟨r, rfl, rfl⟩ := hx
  have hq : 0 < m.dx * m.dx + m.dy * m.dy := by
    have sq : ∀ a : Int, 0 ≤ a * a := fun a => by
      rcases Int.le_total 0 a with h | h
      · exact Int.mul_nonneg h h
      · have := Int.mul_nonneg (a := -a) (b := -a) (by omega) (by omega); rwa [Int.neg_mul_neg] at this
    have h1 := sq m.dx
    have h2 := sq m.dy
    by_cases h : m.dx = 0
    · have h3 : m.dy ≠ 0 := fun e => by have := m.prim; rw [h, e] at this; exact absurd this (by decide)
      have : m.dy * m.dy ≠ 0 := Int.mul_ne_zero h3 h3
      omega
    · have : m.dx * m.dx ≠ 0 := Int.mul_ne_zero h h
      omega
  have f1 : dotI (ax + r * m.dx) (ay + r * m.dy) ax ay cx cy = (m.dx * m.dx + m.dy * m.dy) * (r * (r - (m.s + m.t))) := by
    have := m.e3; have := m.e4; unfold dotI; grind
  have f2 : dotI (ax + r * m.dx) (ay + r * m.dy) ax ay bx b_y = (m.dx * m.dx + m.dy * m.dy) * (r * (r - m.s)) := by
    have := m.e1; have := m.e2; unfold dotI; grind
  have f3 : dotI (ax + r * m.dx) (ay + r * m.dy) bx b_y cx cy = (m.dx * m.dx + m.dy * m.dy) * ((m.s - r) * (m.s + m.t - r)) := by
    have := m.e1; have := m.e2; have := m.e3; have := m.e4; unfold dotI; grind
  rw [f1, mul_le_iff hq] at h2
  rw [f2, f3, mul_le_iff hq, mul_le_iff hq]
  have hs := m.hs
  have ht := m.ht
  generalize m.s = s at *
  generalize m.t = t at *
  have hr0 : 0 ≤ r := by
    rcases ltOrGe r 0 with h | h
    · have := Int.mul_pos_of_neg_of_neg h (show r - (s + t) < 0 by omega); omega
    · exact h
  have hr1 : r ≤ s + t := by
    rcases ltOrGe (s + t) r with h | h
    · have := Int.mul_pos (show 0 < r by omega) (show 0 < r - (s + t) by omega); omega
    · exact h
  rcases Int.le_total r s with h | h
  · refine .inl ⟨h1, ?_⟩
    have := Int.mul_nonneg hr0 (show 0 ≤ s - r by omega)
    have e : r * (r - s) = -(r * (s - r)) := by grind
    omega
  · refine .inr ⟨h1, ?_⟩
    have := Int.mul_nonneg (show 0 ≤ r - s by omega) (show 0 ≤ s + t - r by omega)
    have e : (s - r) * (s + t - r) = -((r - s) * (s + t - r)) := by grind
    omega

theorem signs_opposite {a b : Int} : signI a * signI b < 0 ↔ (0 < a ∧ b < 0) ∨ (a < 0 ∧ 0 < b) := by
  rcases sign_cases a with ⟨h1, e1⟩ | ⟨h1, e1⟩ | ⟨h1, e1⟩ <;> rcases sign_cases b with ⟨h2, e2⟩ | ⟨h2, e2⟩ | ⟨h2, e2⟩ <;> rw [e1, e2] <;> omega

/-- Two sides of which the ends of the second lie strictly on both sides of the first one's line, and the point b of the first on the second's line. -/
theorem on_of_opposite (dx dy ex ey : Int) (ux uy vx vy x y : Int) (ho : (0 < crossI ux uy vx vy dx dy ∧ crossI ux uy vx vy ex ey < 0) ∨ (crossI ux uy vx vy dx dy < 0 ∧ 0 < crossI ux uy vx vy ex ey)) (hon : crossI ux uy vx vy x y = 0) (hc : crossI dx dy ex ey x y = 0) :
    onSideB dx dy ex ey x y = true := by
  simp only [onSideB, Bool.and_eq_true, decide_eq_true_eq]
  refine ⟨hc, ?_⟩
  -- (d - x) and (e - x) are anti-parallel: p (e - x) = q (d - x) with p, q of one sign ..
  have k1 : crossI ux uy vx vy dx dy * (ex - x) = crossI ux uy vx vy ex ey * (dx - x) := by unfold crossI at *; grind
  have k2 : crossI ux uy vx vy dx dy * (ey - y) = crossI ux uy vx vy ex ey * (dy - y) := by unfold crossI at *; grind
  generalize crossI ux uy vx vy dx dy = p at *
  generalize crossI ux uy vx vy ex ey = q at *
  have sq : ∀ a : Int, 0 ≤ a * a := fun a => by
    rcases Int.le_total 0 a with h | h
    · exact Int.mul_nonneg h h
    · have := Int.mul_nonneg (a := -a) (b := -a) (by omega) (by omega); rwa [Int.neg_mul_neg] at this
  have h0 : 0 ≤ (dx - x) * (dx - x) + (dy - y) * (dy - y) := by have := sq (dx - x); have := sq (dy - y); omega
  have key : p * dotI x y dx dy ex ey = q * ((dx - x) * (dx - x) + (dy - y) * (dy - y)) := by unfold dotI; grind
  rcases ltOrGe 0 (dotI x y dx dy ex ey) with h | h
  · exfalso
    rcases ho with ⟨h1, h2⟩ | ⟨h1, h2⟩
    · have := Int.mul_pos h1 h
      have := mul_le_iff (s := -q) (n := -((dx - x) * (dx - x) + (dy - y) * (dy - y))) (by omega)
      have e : (-q) * (-((dx - x) * (dx - x) + (dy - y) * (dy - y))) = q * ((dx - x) * (dx - x) + (dy - y) * (dy - y)) := by grind
      omega
    · have := Int.mul_neg_of_neg_of_pos h1 h
      have := Int.mul_nonneg (show 0 ≤ q by omega) h0
      omega
  · exact h

/-- What meets the whole meets a part. -/
theorem meet_parts (m : Mid ax ay bx b_y cx cy) {dx dy ex ey : Int} (h : meetB ax ay cx cy dx dy ex ey = true) : meetB ax ay bx b_y dx dy ex ey = true ∨ meetB bx b_y cx cy dx dy ex ey = true := by
  have hs := m.hs
  have ht := m.ht
  unfold meetB at h
  simp only [Bool.or_eq_true, Bool.and_eq_true, decide_eq_true_eq] at h
  rcases h with (((h | h) | h) | h) | ⟨h1, h2⟩
  · rcases on_parts m h with h | h
    · left; simp [meetB, h]
    · right; simp [meetB, h]
  · rcases on_parts m h with h | h
    · left; simp [meetB, h]
    · right; simp [meetB, h]
  · left; simp [meetB, h]
  · right; simp [meetB, h]
  · have h1' := signs_opposite.1 h1
    have h2' := signs_opposite.1 h2
    have p1 := fun x y => mul_pos_iff (n := seen m x y) (sum_pos m)
    have p2 := fun x y => mul_pos_iff (n := -seen m x y) (sum_pos m)
    have hab : signI (crossI ax ay bx b_y dx dy) * signI (crossI ax ay bx b_y ex ey) < 0 := by
      rw [cross_ac m, cross_ac m, sign_mul (sum_pos m), sign_mul (sum_pos m)] at h1
      rw [cross_ab m, cross_ab m, sign_mul hs, sign_mul hs]; exact h1
    have hbc : signI (crossI bx b_y cx cy dx dy) * signI (crossI bx b_y cx cy ex ey) < 0 := by
      rw [cross_ac m, cross_ac m, sign_mul (sum_pos m), sign_mul (sum_pos m)] at h1
      rw [cross_bc m, cross_bc m, sign_mul ht, sign_mul ht]; exact h1
    have hat := cross_at m dx dy ex ey
    rcases sign_cases (crossI dx dy ex ey bx b_y) with ⟨hb, eb⟩ | ⟨hb, eb⟩ | ⟨hb, eb⟩
    · rcases h2' with ⟨ha, hc⟩ | ⟨ha, hc⟩
      · right
        have : signI (crossI dx dy ex ey bx b_y) * signI (crossI dx dy ex ey cx cy) < 0 := signs_opposite.2 (.inl ⟨hb, hc⟩)
        simp [meetB, hbc, this]
      · left
        have : signI (crossI dx dy ex ey ax ay) * signI (crossI dx dy ex ey bx b_y) < 0 := signs_opposite.2 (.inr ⟨ha, hb⟩)
        simp [meetB, hab, this]
    · left
      have hon : crossI ax ay cx cy bx b_y = 0 := by rw [cross_ac m]; have := m.e1; have := m.e2; unfold seen; grind
      have := on_of_opposite dx dy ex ey ax ay cx cy bx b_y h1' hon hb
      simp [meetB, this]
    · rcases h2' with ⟨ha, hc⟩ | ⟨ha, hc⟩
      · left
        have : signI (crossI dx dy ex ey ax ay) * signI (crossI dx dy ex ey bx b_y) < 0 := signs_opposite.2 (.inl ⟨ha, hb⟩)
        simp [meetB, hab, this]
      · right
        have : signI (crossI dx dy ex ey bx b_y) * signI (crossI dx dy ex ey cx cy) < 0 := signs_opposite.2 (.inr ⟨hb, hc⟩)
        simp [meetB, hbc, this]

/-- Turning back at c, looked at from a or from b. -/
theorem back_c (m : Mid ax ay bx b_y cx cy) (x y : Int) : (crossI cx cy ax ay x y = 0 ∧ 0 < dotI cx cy ax ay x y) ↔ (crossI cx cy bx b_y x y = 0 ∧ 0 < dotI cx cy bx b_y x y) := by
  have a1 : crossI cx cy ax ay x y = (m.s + m.t) * (m.dy * (x - cx) - m.dx * (y - cy)) := by have := m.e3; have := m.e4; unfold crossI; grind
  have a2 : crossI cx cy bx b_y x y = m.t * (m.dy * (x - cx) - m.dx * (y - cy)) := by have := m.e3; have := m.e4; have := m.e1; have := m.e2; unfold crossI; grind
  have a3 : dotI cx cy ax ay x y = (m.s + m.t) * (-(m.dx * (x - cx) + m.dy * (y - cy))) := by have := m.e3; have := m.e4; unfold dotI; grind
  have a4 : dotI cx cy bx b_y x y = m.t * (-(m.dx * (x - cx) + m.dy * (y - cy))) := by have := m.e3; have := m.e4; have := m.e1; have := m.e2; unfold dotI; grind
  rw [a1, a2, a3, a4, mul_zero_iff (sum_pos m), mul_zero_iff m.ht, mul_pos_iff (sum_pos m), mul_pos_iff m.ht]
/-- Turning back at a, looked at from c or from b. -/
theorem back_a (m : Mid ax ay bx b_y cx cy) (x y : Int) : (crossI ax ay x y cx cy = 0 ∧ 0 < dotI ax ay x y cx cy) ↔ (crossI ax ay x y bx b_y = 0 ∧ 0 < dotI ax ay x y bx b_y) := by
  have a1 : crossI ax ay x y cx cy = (m.s + m.t) * (m.dy * (x - ax) - m.dx * (y - ay)) := by have := m.e3; have := m.e4; unfold crossI; grind
  have a2 : crossI ax ay x y bx b_y = m.s * (m.dy * (x - ax) - m.dx * (y - ay)) := by have := m.e1; have := m.e2; unfold crossI; grind
  have a3 : dotI ax ay x y cx cy = (m.s + m.t) * ((m.dx * (x - ax) + m.dy * (y - ay))) := by have := m.e3; have := m.e4; unfold dotI; grind
  have a4 : dotI ax ay x y bx b_y = m.s * ((m.dx * (x - ax) + m.dy * (y - ay))) := by have := m.e1; have := m.e2; unfold dotI; grind
  rw [a1, a2, a3, a4, mul_zero_iff (sum_pos m), mul_zero_iff m.hs, mul_pos_iff (sum_pos m), mul_pos_iff m.hs]
/-- The bend at c, from b or from a. -/
theorem bend_c (m : Mid ax ay bx b_y cx cy) (x y : Int) : crossI ax ay cx cy x y = 0 ↔ crossI bx b_y cx cy x y = 0 := by
  rw [cross_ac m, cross_bc m, mul_zero_iff (sum_pos m), mul_zero_iff m.ht]
theorem bend_a (m : Mid ax ay bx b_y cx cy) (x y : Int) : crossI x y ax ay cx cy = 0 ↔ crossI x y ax ay bx b_y = 0 := by
  have a1 : crossI x y ax ay cx cy = (m.s + m.t) * seen m x y := by rw [← cross_ac m]; unfold crossI; grind
  have a2 : crossI x y ax ay bx b_y = m.s * seen m x y := by rw [← cross_ab m]; unfold crossI; grind
  rw [a1, a2, mul_zero_iff (sum_pos m), mul_zero_iff m.hs]
theorem gcd_sum (m : Mid ax ay bx b_y cx cy) : ((Nat.gcd (cx - ax).natAbs (cy - ay).natAbs : Nat) : Int) = ((Nat.gcd (bx - ax).natAbs (b_y - ay).natAbs : Nat) : Int) + ((Nat.gcd (cx - bx).natAbs (cy - b_y).natAbs : Nat) : Int) := by
  have key : ∀ k : Int, 0 < k → ∀ u v : Int, u = k * m.dx → v = k * m.dy → ((Nat.gcd u.natAbs v.natAbs : Nat) : Int) = k := by
    intro k hk u v hu hv
    have h := Int.gcd_mul_left k m.dx m.dy
    rw [m.prim, ← hu, ← hv, Int.gcd_eq_natAbs_gcd_natAbs] at h
    omega
  have e1 := m.e1; have e2 := m.e2; have e3 := m.e3; have e4 := m.e4
  rw [Int.add_mul] at e3 e4
  rw [key m.s m.hs (bx - ax) (b_y - ay) (by omega) (by omega), key m.t m.ht (cx - bx) (cy - b_y) (by omega) (by omega), key (m.s + m.t) (sum_pos m) (cx - ax) (cy - ay) (by rw [Int.add_mul]; omega) (by rw [Int.add_mul]; omega)]
end
end Go.Proofs.YtamhhbkjgfhfoaaDoor
