/- Two parts of a parcel that is cut: areas, posts on borders and inside. -/
import Derived.Test.YticjjikodignfaaDoorGeo
namespace Go.Proofs.YticjjikodignfaaDoor
open Go.RowKit

/-! Parts of a parcel that is cut. -/
/-- Odd just where not both are even. -/
theorem gcd_par (u v : Int) : ((Nat.gcd u.natAbs v.natAbs : Nat) : Int) % 2 = if u % 2 = 0 ∧ v % 2 = 0 then 0 else 1 := by
  split
  · rename_i h
    have : 2 ∣ Nat.gcd u.natAbs v.natAbs := Nat.dvd_gcd (by omega) (by omega)
    omega
  · rename_i h
    have h1 := Nat.gcd_dvd_left u.natAbs v.natAbs
    have h2 := Nat.gcd_dvd_right u.natAbs v.natAbs
    rcases Nat.mod_two_eq_zero_or_one (Nat.gcd u.natAbs v.natAbs) with e | e
    · have d : 2 ∣ Nat.gcd u.natAbs v.natAbs := Nat.dvd_of_mod_eq_zero e
      have := Nat.dvd_trans d h1
      have := Nat.dvd_trans d h2
      omega
    · omega
def gI (ax ay bx b_y : Int) : Int := ((Nat.gcd (bx - ax).natAbs (b_y - ay).natAbs : Nat) : Int)
theorem gI_symm (ax ay bx b_y : Int) : gI bx b_y ax ay = gI ax ay bx b_y := by
  unfold gI
  rw [show (ax - bx).natAbs = (bx - ax).natAbs by omega, show (ay - b_y).natAbs = (b_y - ay).natAbs by omega]
theorem mul_mod_two (a b : Int) : (a * b) % 2 = if a % 2 = 0 ∨ b % 2 = 0 then 0 else 1 := by
  rw [Int.mul_emod]
  have h1 : a % 2 = 0 ∨ a % 2 = 1 := by omega
  have h2 : b % 2 = 0 ∨ b % 2 = 1 := by omega
  rcases h1 with h1 | h1 <;> rcases h2 with h2 | h2 <;> rw [h1, h2] <;> simp
/-- A triangle. -/
theorem tri_par (ax ay bx b_y cx cy : Int) : (crossI ax ay bx b_y cx cy + gI ax ay bx b_y + gI bx b_y cx cy + gI cx cy ax ay) % 2 = 0 := by
  have e : crossI ax ay bx b_y cx cy = (bx - ax) * (cy - ay) - (b_y - ay) * (cx - ax) := rfl
  have m1 := mul_mod_two (bx - ax) (cy - ay)
  have m2 := mul_mod_two (b_y - ay) (cx - ax)
  have g1 := gcd_par (bx - ax) (b_y - ay)
  have g2 := gcd_par (cx - bx) (cy - b_y)
  have g3 := gcd_par (ax - cx) (ay - cy)
  unfold gI
  rw [e]
  generalize (bx - ax) * (cy - ay) = P at *
  generalize (b_y - ay) * (cx - ax) = Q at *
  generalize ((Nat.gcd (bx - ax).natAbs (b_y - ay).natAbs : Nat) : Int) = G1 at *
  generalize ((Nat.gcd (cx - bx).natAbs (cy - b_y).natAbs : Nat) : Int) = G2 at *
  generalize ((Nat.gcd (ax - cx).natAbs (ay - cy).natAbs : Nat) : Int) = G3 at *
  repeat' split at m1
  all_goals repeat' split at m2
  all_goals repeat' split at g1
  all_goals repeat' split at g2
  all_goals repeat' split at g3
  all_goals omega

/-- A sum from a on. -/
def sumF (f : Nat → Int) (a : Nat) : Nat → Int
  | 0 => 0
  | m + 1 => sumF f a m + f (a + m)
theorem sumF_zero (f : Nat → Int) : ∀ m, sumF f 0 m = sumN m f
  | 0 => rfl
  | m + 1 => by simp only [sumF, sumN, sumF_zero f m, Nat.zero_add]
theorem sumN_split (f : Nat → Int) (a : Nat) : ∀ m, sumN (a + m) f = sumN a f + sumF f a m
  | 0 => by simp [sumF]
  | m + 1 => by rw [← Nat.add_assoc]; simp only [sumF, sumN, sumN_split f a m]; omega
/-- Twice the area and the posts of the border are both even or both odd. -/
theorem pick_par {n : Nat} (px py : Nat → Int) (h : 1 ≤ n) : (areaI n px py + borderI n px py) % 2 = 0 := by
  have key : ∀ m, (sumN m (fun k => crossI 0 0 (px k) (py k) (px (k + 1)) (py (k + 1))) + sumN m (fun k => gI (px k) (py k) (px (k + 1)) (py (k + 1))) + gI 0 0 (px 0) (py 0) + gI 0 0 (px m) (py m)) % 2 = 0 := by
    intro m
    induction m with
    | zero => simp only [sumN]; omega
    | succ m ih =>
      have t := tri_par 0 0 (px m) (py m) (px (m + 1)) (py (m + 1))
      rw [gI_symm 0 0 (px (m + 1)) (py (m + 1))] at t
      simp only [sumN]
      omega
  obtain ⟨m, rfl⟩ : ∃ m, n = m + 1 := ⟨n - 1, by omega⟩
  have e : ∀ i, i < m → nx (m + 1) i = i + 1 := fun i hi => by rcases nx_cases (n := m + 1) (k := i) (by omega) with ⟨_, e⟩ | ⟨_, e⟩ <;> omega
  have e0 : nx (m + 1) m = 0 := by rcases nx_cases (n := m + 1) (k := m) (by omega) with ⟨_, e⟩ | ⟨_, e⟩ <;> omega
  have k := key m
  have t := tri_par 0 0 (px m) (py m) (px 0) (py 0)
  rw [gI_symm 0 0 (px 0) (py 0)] at t
  unfold areaI borderI
  simp only [sumN, e0]
  rw [sumN_congr (f := fun k => crossI 0 0 (px k) (py k) (px (nx (m + 1) k)) (py (nx (m + 1) k))) (g := fun k => crossI 0 0 (px k) (py k) (px (k + 1)) (py (k + 1))) m (fun i hi => by rw [e i hi])]
  rw [sumN_congr (f := fun k => ((Nat.gcd (px (nx (m + 1) k) - px k).natAbs (py (nx (m + 1) k) - py k).natAbs : Nat) : Int)) (g := fun k => gI (px k) (py k) (px (k + 1)) (py (k + 1))) m (fun i hi => by rw [e i hi]; rfl)]
  have : ((Nat.gcd (px 0 - px m).natAbs (py 0 - py m).natAbs : Nat) : Int) = gI (px m) (py m) (px 0) (py 0) := rfl
  rw [this]
  omega

/-- The two parts of a cut between i and k: k - i + 1 and n - k + i + 1 corners. -/
def cutA (i : Nat) (f : Nat → Int) : Nat → Int := fun j => f (i + j)
def cutB (n k : Nat) (f : Nat → Int) : Nat → Int := fun j => if k + j < n then f (k + j) else f (k + j - n)
theorem sumF_congr {f g : Nat → Int} (a b : Nat) : ∀ m, (∀ i, i < m → f (a + i) = g (b + i)) → sumF f a m = sumF g b m
  | 0, _ => rfl
  | m + 1, h => by simp only [sumF]; rw [sumF_congr a b m (fun i hi => h i (by omega)), h m (by omega)]
/-- A sum over the sides of both parts counts the sides of the whole, and the cut to and fro. -/
theorem sum_cut (F : Int → Int → Int → Int → Int) {n i k : Nat} (px py : Nat → Int) (hik : i + 2 ≤ k) (hk : k < n) :
    (sumN (k - i + 1) fun j => F (cutA i px j) (cutA i py j) (cutA i px (nx (k - i + 1) j)) (cutA i py (nx (k - i + 1) j))) + (sumN (n - k + i + 1) fun j => F (cutB n k px j) (cutB n k py j) (cutB n k px (nx (n - k + i + 1) j)) (cutB n k py (nx (n - k + i + 1) j)))
      = (sumN n fun j => F (px j) (py j) (px (nx n j)) (py (nx n j))) + F (px k) (py k) (px i) (py i) + F (px i) (py i) (px k) (py k) := by
  obtain ⟨f, hf⟩ : ∃ f : Nat → Int, f = fun j => F (px j) (py j) (px (nx n j)) (py (nx n j)) := ⟨_, rfl⟩
  have eA : (sumN (k - i + 1) fun j => F (cutA i px j) (cutA i py j) (cutA i px (nx (k - i + 1) j)) (cutA i py (nx (k - i + 1) j))) = sumF f i (k - i) + F (px k) (py k) (px i) (py i) := by
    simp only [sumN]
    have e0 : nx (k - i + 1) (k - i) = 0 := by rcases nx_cases (n := k - i + 1) (k := k - i) (by omega) with ⟨_, e⟩ | ⟨_, e⟩ <;> omega
    rw [e0]
    have e1 : cutA i px (k - i) = px k := by unfold cutA; rw [show i + (k - i) = k by omega]
    have e2 : cutA i py (k - i) = py k := by unfold cutA; rw [show i + (k - i) = k by omega]
    rw [e1, e2, ← sumF_zero]
    congr 1
    refine sumF_congr 0 i (k - i) fun j hj => ?_
    have e3 : nx (k - i + 1) j = j + 1 := by rcases nx_cases (n := k - i + 1) (k := j) (by omega) with ⟨_, e⟩ | ⟨_, e⟩ <;> omega
    have e4 : nx n (i + j) = i + (j + 1) := by rcases nx_cases (n := n) (k := i + j) (by omega) with ⟨_, e⟩ | ⟨_, e⟩ <;> omega
    rw [hf]
    simp only [e3, e4, cutA, Nat.zero_add]
  have eB : (sumN (n - k + i + 1) fun j => F (cutB n k px j) (cutB n k py j) (cutB n k px (nx (n - k + i + 1) j)) (cutB n k py (nx (n - k + i + 1) j))) = sumF f k (n - k) + sumN i f + F (px i) (py i) (px k) (py k) := by
    simp only [sumN]
    have e0 : nx (n - k + i + 1) (n - k + i) = 0 := by rcases nx_cases (n := n - k + i + 1) (k := n - k + i) (by omega) with ⟨_, e⟩ | ⟨_, e⟩ <;> omega
    rw [e0]
    have e1 : ∀ p : Nat → Int, cutB n k p (n - k + i) = p i := fun p => by unfold cutB; rw [if_neg (by omega), show k + (n - k + i) - n = i by omega]
    have e2 : ∀ p : Nat → Int, cutB n k p 0 = p k := fun p => by unfold cutB; rw [if_pos (by omega)]; rfl
    rw [e1, e1, e2, e2]
    congr 1
    rw [sumN_split]
    have low : ∀ j, j < n - k → ∀ p : Nat → Int, cutB n k p j = p (k + j) := fun j hj p => by unfold cutB; rw [if_pos (by omega)]
    have high : ∀ j, ∀ p : Nat → Int, cutB n k p (n - k + j) = p j := fun j p => by unfold cutB; rw [if_neg (by omega), show k + (n - k + j) - n = j by omega]
    congr 1
    · rw [← sumF_zero]
      refine sumF_congr 0 k (n - k) fun j hj => ?_
      have e3 : nx (n - k + i + 1) j = j + 1 := by rcases nx_cases (n := n - k + i + 1) (k := j) (by omega) with ⟨_, e⟩ | ⟨_, e⟩ <;> omega
      rw [hf]
      simp only [e3, Nat.zero_add]
      rcases nx_cases (n := n) (k := k + j) (by omega) with ⟨h, e⟩ | ⟨h, e⟩
      · rw [e, low j hj, low j hj, low (j + 1) (by omega), low (j + 1) (by omega)]; rfl
      · rw [e, low j hj, low j hj]
        have := high 0
        rw [Nat.add_zero, show n - k = j + 1 by omega] at this
        rw [this, this]
    · rw [← sumF_zero]
      refine sumF_congr (n - k) 0 i fun j hj => ?_
      have e3 : nx (n - k + i + 1) (n - k + j) = n - k + (j + 1) := by rcases nx_cases (n := n - k + i + 1) (k := n - k + j) (by omega) with ⟨_, e⟩ | ⟨_, e⟩ <;> omega
      have e4 : nx n j = j + 1 := by rcases nx_cases (n := n) (k := j) (by omega) with ⟨_, e⟩ | ⟨_, e⟩ <;> omega
      rw [hf]
      simp only [e3, e4, Nat.zero_add, high]
  have eN : (sumN n fun j => F (px j) (py j) (px (nx n j)) (py (nx n j))) = sumN i f + sumF f i (k - i) + sumF f k (n - k) := by
    rw [← hf, show n = k + (n - k) by omega, sumN_split, show k = i + (k - i) by omega, sumN_split, ← show k = i + (k - i) by omega, ← show n = k + (n - k) by omega]
  rw [eA, eB, eN]
  omega

theorem border_cut {n i k : Nat} (px py : Nat → Int) (hik : i + 2 ≤ k) (hk : k < n) :
    borderI (k - i + 1) (cutA i px) (cutA i py) + borderI (n - k + i + 1) (cutB n k px) (cutB n k py) = borderI n px py + 2 * gI (px i) (py i) (px k) (py k) := by
  have := sum_cut (fun ax ay bx b_y => ((Nat.gcd (bx - ax).natAbs (b_y - ay).natAbs : Nat) : Int)) px py hik hk
  have e := gI_symm (px i) (py i) (px k) (py k)
  unfold borderI
  rw [this]
  unfold gI at *
  omega
theorem area_cut {n i k : Nat} (px py : Nat → Int) (hik : i + 2 ≤ k) (hk : k < n) :
    areaI (k - i + 1) (cutA i px) (cutA i py) + areaI (n - k + i + 1) (cutB n k px) (cutB n k py) = areaI n px py := by
  have := sum_cut (fun ax ay bx b_y => crossI 0 0 ax ay bx b_y) px py hik hk
  unfold areaI
  rw [this]
  unfold crossI
  grind
/-- What the posts inside two parts, and on the cut, are together. -/
theorem inside_cut {n i k : Nat} (px py : Nat → Int) (hik : i + 2 ≤ k) (hk : k < n)
    (ha : absI (areaI (k - i + 1) (cutA i px) (cutA i py)) + absI (areaI (n - k + i + 1) (cutB n k px) (cutB n k py)) = absI (areaI n px py)) :
    (absI (areaI (k - i + 1) (cutA i px) (cutA i py)) - borderI (k - i + 1) (cutA i px) (cutA i py) + 2).tdiv 2 + (absI (areaI (n - k + i + 1) (cutB n k px) (cutB n k py)) - borderI (n - k + i + 1) (cutB n k px) (cutB n k py) + 2).tdiv 2 + gI (px i) (py i) (px k) (py k) - 1
      = (absI (areaI n px py) - borderI n px py + 2).tdiv 2 := by
  have p1 := pick_par (n := k - i + 1) (cutA i px) (cutA i py) (by omega)
  have p2 := pick_par (n := n - k + i + 1) (cutB n k px) (cutB n k py) (by omega)
  have p3 := pick_par (n := n) px py (by omega)
  have b := border_cut px py hik hk
  generalize areaI (k - i + 1) (cutA i px) (cutA i py) = a1 at *
  generalize areaI (n - k + i + 1) (cutB n k px) (cutB n k py) = a2 at *
  generalize areaI n px py = a3 at *
  generalize borderI (k - i + 1) (cutA i px) (cutA i py) = b1 at *
  generalize borderI (n - k + i + 1) (cutB n k px) (cutB n k py) = b2 at *
  generalize borderI n px py = b3 at *
  unfold absI at *
  have half : ∀ x : Int, x % 2 = 0 → x.tdiv 2 = x / 2 := fun x hx => by
    rw [Int.tdiv_eq_ediv]
    split
    · simp
    · have : (2 : Int) ∣ x := by omega
      simp [this] at *
  rw [half _ (by omega), half _ (by omega), half _ (by omega)]
  omega
end Go.Proofs.YticjjikodignfaaDoor
