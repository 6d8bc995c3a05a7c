/- A hull is a parcel that bends to the left alone, and no post of its list is outside. -/
import Derived.Test.YtamhhbkjgfhfoaaDoorHullMath
import Derived.Test.YtamhhbkjgfhfoaaDoorStraightMath
import Derived.Test.YtamhhbkjgfhfoaaDoorWhere
namespace Go.Proofs.YtamhhbkjgfhfoaaDoor
open Go.RowKit

/-! A hull is a parcel, convex, on the left; no post of the list is outside. -/
theorem get_h {h : List Pt} {i : Nat} (hi : i < h.length) : h[i]? = some (hx h i, hy h i) := by
  unfold hx hy
  rw [List.getD_eq_getElem?_getD, List.getElem?_eq_getElem hi]; rfl
def hp (h : List Pt) (i : Nat) : Pt := (hx h i, hy h i)

/-- A post on a line through two others, between them or not. -/
theorem strict_side {l h : List Pt} (hh : IsHull l h) {i j : Nat} (hi : i < h.length) (hj : j < h.length) (h1 : j ≠ i) (h2 : j ≠ nx h.length i) : 0 < crP (hp h i) (hp h (nx h.length i)) (hp h j) := by
  have l1 := hh.three
  have hn := nx_lt (n := h.length) i (by omega)
  have hnj := nx_lt (n := h.length) j (by omega)
  have s1 := hh.side i _ _ (get_h hi) (get_h hn)
  have s2 := hh.side j _ _ (get_h hj) (get_h hnj)
  have mem : ∀ k, k < h.length → hp h k ∈ l := fun k hk => hh.sub _ (List.mem_of_getElem? (get_h hk))
  have ne : ∀ a b, a < h.length → b < h.length → a ≠ b → hp h a ≠ hp h b := fun a b ha hb hab e => by
    have e1 := get_h ha
    have e2 := get_h hb
    rw [List.getElem?_eq_getElem ha] at e1
    rw [List.getElem?_eq_getElem hb] at e2
    have : h[a] = h[b] := (Option.some.inj e1).trans (e.trans (Option.some.inj e2).symm)
    exact hab ((List.getElem_inj hh.nodup).1 this)
  obtain ⟨k1, k2⟩ := s1.2 _ (mem j hj)
  rcases ltOrGe 0 (crP (hp h i) (hp h (nx h.length i)) (hp h j)) with hlt | hle
  · exact hlt
  · exfalso
    have z : crP (hp h i) (hp h (nx h.length i)) (hp h j) = 0 := by
      have : 0 ≤ crP (hp h i) (hp h (nx h.length i)) (hp h j) := k1
      omega
    have d : dotP (hp h j) (hp h i) (hp h (nx h.length i)) ≤ 0 := k2 z
    have n1 := ne j i hj hi h1
    have n2 := ne j (nx h.length i) hj hn h2
    obtain ⟨q1, q2⟩ := s2.2 _ (mem i hi)
    obtain ⟨q3, q4⟩ := s2.2 _ (mem _ hn)
    have n3 := s2.1
    change 0 ≤ crP (hp h j) (hp h (nx h.length j)) (hp h i) at q1
    change 0 ≤ crP (hp h j) (hp h (nx h.length j)) (hp h (nx h.length i)) at q3
    change crP (hp h j) (hp h (nx h.length j)) (hp h i) = 0 → dotP (hp h i) (hp h j) (hp h (nx h.length j)) ≤ 0 at q2
    change crP (hp h j) (hp h (nx h.length j)) (hp h (nx h.length i)) = 0 → dotP (hp h (nx h.length i)) (hp h j) (hp h (nx h.length j)) ≤ 0 at q4
    change hp h j ≠ hp h (nx h.length j) at n3
    generalize hp h i = a at *
    generalize hp h (nx h.length i) = b at *
    generalize hp h j = c at *
    generalize hp h (nx h.length j) = e at *
    -- a and b lie on both sides of c on one line
    have pa := far_pos n1
    have pb := far_pos n2
    have k1 : farP c b * crP c e a = dotP c a b * crP c e b := by unfold crP crossI dotP dotI farP at *; grind
    have za : crP c e a = 0 := by
      have := Int.mul_nonneg (show 0 ≤ farP c b by omega) q1
      have := Int.mul_nonneg (show 0 ≤ -dotP c a b by omega) q3
      have e2 : -dotP c a b * crP c e b = -(dotP c a b * crP c e b) := by grind
      have : farP c b * crP c e a = 0 := by omega
      rcases Int.mul_eq_zero.1 this with h | h <;> omega
    have k2 : farP c a * crP c e b = dotP c a b * crP c e a := by unfold crP crossI dotP dotI farP at *; grind
    have zb : crP c e b = 0 := by
      rw [za, Int.mul_zero] at k2
      rcases Int.mul_eq_zero.1 k2 with h | h <;> omega
    have da := q2 za
    have db := q4 zb
    -- both would lie between c and e
    have f1 := far_eq c e a
    have f2 := far_eq c e b
    have ga : farP c a = farP a c := by unfold farP; grind
    -- (a - c) . (e - c) is positive, so is (b - c) . (e - c): but they point apart
    have u1 : dotP c a e = farP c a - dotP a c e := by unfold dotP dotI farP; grind
    have u2 : dotP c b e = farP c b - dotP b c e := by unfold dotP dotI farP; grind
    have u3 : farP c b * dotP c a e = dotP c a b * dotP c b e := by unfold crP crossI dotP dotI farP at *; grind
    have v1 := Int.mul_pos pb (show 0 < dotP c a e by omega)
    have v2 := Int.mul_nonneg (show 0 ≤ -dotP c a b by omega) (show 0 ≤ dotP c b e by omega)
    have e3 : -dotP c a b * dotP c b e = -(dotP c a b * dotP c b e) := by grind
    omega

theorem hull_parcel {l h : List Pt} (hh : IsHull l h) (hr : ∀ x ∈ l, (inR x.1 && inR x.2) = true) (h40 : h.length ≤ 40) : Parcel h.length (hx h) (hy h) := by
  have l1 := hh.three
  have st := fun {i j : Nat} (hi : i < h.length) (hj : j < h.length) (h1 : j ≠ i) (h2 : j ≠ nx h.length i) => strict_side hh hi hj h1 h2
  refine ⟨l1, h40, fun i hi => hr _ (hh.sub _ (List.mem_of_getElem? (get_h hi))), ?_, ?_, ?_⟩
  · rintro i k hi hk hne ⟨e1, e2⟩
    have g1 := get_h hi
    have g2 := get_h hk
    rw [e1, e2, ← g2, List.getElem?_eq_getElem hi, List.getElem?_eq_getElem hk] at g1
    exact hne ((List.getElem_inj hh.nodup).1 (Option.some.inj g1))
  · rintro k hk ⟨e, _⟩
    have hp1 := pv_lt (n := h.length) k (by omega)
    have hn1 := nx_lt (n := h.length) k (by omega)
    have := st hp1 hn1 (by rcases nx_cases hk with ⟨_, e1⟩ | ⟨_, e1⟩ <;> rcases pv_cases hk with ⟨_, e2⟩ | ⟨_, e2⟩ <;> omega) (by rw [nx_pv hk]; rcases nx_cases hk with ⟨_, e1⟩ | ⟨_, e1⟩ <;> omega)
    rw [nx_pv hk] at this
    unfold crP hp at this
    simp only at this
    rw [cross_swap] at e
    omega
  · intro i k hi hk hne h1 h2
    have hni := nx_lt (n := h.length) i (by omega)
    have hnk := nx_lt (n := h.length) k (by omega)
    have h3 : nx h.length k ≠ nx h.length i := fun e => hne (by rw [← pv_nx hi, ← e, pv_nx hk])
    have a1 := st hi hk (Ne.symm hne) h1
    have a2 := st hi hnk (Ne.symm h2) h3
    have a3 := st hk hi hne h2
    have a4 := st hk hni (Ne.symm h1) (Ne.symm h3)
    unfold crP hp at a1 a2 a3 a4
    simp only at a1 a2 a3 a4
    have s1 : signI (crossI (hx h i) (hy h i) (hx h (nx h.length i)) (hy h (nx h.length i)) (hx h k) (hy h k)) = 1 := by unfold signI; omega
    have s2 : signI (crossI (hx h i) (hy h i) (hx h (nx h.length i)) (hy h (nx h.length i)) (hx h (nx h.length k)) (hy h (nx h.length k))) = 1 := by unfold signI; omega
    unfold meetB onSideB
    rw [s1, s2]
    have n1 := decide_eq_false (p := crossI (hx h i) (hy h i) (hx h (nx h.length i)) (hy h (nx h.length i)) (hx h k) (hy h k) = 0) (by omega)
    have n2 := decide_eq_false (p := crossI (hx h i) (hy h i) (hx h (nx h.length i)) (hy h (nx h.length i)) (hx h (nx h.length k)) (hy h (nx h.length k)) = 0) (by omega)
    have n3 := decide_eq_false (p := crossI (hx h k) (hy h k) (hx h (nx h.length k)) (hy h (nx h.length k)) (hx h i) (hy h i) = 0) (by omega)
    have n4 := decide_eq_false (p := crossI (hx h k) (hy h k) (hx h (nx h.length k)) (hy h (nx h.length k)) (hx h (nx h.length i)) (hy h (nx h.length i)) = 0) (by omega)
    rw [n1, n2, n3, n4]
    simp

theorem hull_bend {l h : List Pt} (hh : IsHull l h) {k : Nat} (hk : k < h.length) : 0 < bendI h.length (hx h) (hy h) k := by
  have l1 := hh.three
  have hp1 := pv_lt (n := h.length) k (by omega)
  have hn1 := nx_lt (n := h.length) k (by omega)
  have := strict_side hh hp1 hn1 (by rcases nx_cases hk with ⟨_, e1⟩ | ⟨_, e1⟩ <;> rcases pv_cases hk with ⟨_, e2⟩ | ⟨_, e2⟩ <;> omega) (by rw [nx_pv hk]; rcases nx_cases hk with ⟨_, e1⟩ | ⟨_, e1⟩ <;> omega)
  rw [nx_pv hk] at this
  exact this

theorem sum_nonneg {f : Nat → Int} : ∀ n, (∀ i, i < n → 0 ≤ f i) → 0 ≤ sumN n f
  | 0, _ => Int.le_refl _
  | n + 1, h => by have := sum_nonneg n fun i hi => h i (by omega); have := h n (by omega); simp only [sumN]; omega
theorem sum_pos' {f : Nat → Int} {n : Nat} (h0 : 0 < n) (h : ∀ i, i < n → 0 < f i) : 0 < sumN n f := by
  obtain ⟨m, rfl⟩ : ∃ m, n = m + 1 := ⟨n - 1, by omega⟩
  have := sum_nonneg m fun i hi => Int.le_of_lt (h i (by omega))
  have := h m (by omega)
  simp only [sumN]; omega

/-! Where a post is that lies on the left of all sides. -/
theorem par_none {f : Nat → Bool} : ∀ n, (∀ i, i < n → f i = false) → parB n f = false
  | 0, _ => rfl
  | n + 1, h => by simp only [parB]; rw [par_none n fun i hi => h i (by omega), h n (by omega)]; rfl
theorem par_one {f : Nat → Bool} {k : Nat} : ∀ n, k < n → f k = true → (∀ i, i < n → i ≠ k → f i = false) → parB n f = true
  | 0, h, _, _ => by omega
  | n + 1, h, hk, ho => by
    simp only [parB]
    by_cases e : k = n
    · subst e
      rw [par_none k fun i hi => ho i (by omega) (by omega), hk]; rfl
    · rw [par_one n (by omega) hk fun i hi hne => ho i (by omega) hne, ho n (by omega) (by omega)]; rfl

theorem max_of (f : Nat → Int) : ∀ n, 0 < n → ∃ k, k < n ∧ ∀ i, i < n → f i ≤ f k
  | 0, h => by omega
  | 1, _ => ⟨0, by omega, fun i hi => by rw [show i = 0 by omega]; omega⟩
  | n + 2, _ => by
    obtain ⟨k, hk, hm⟩ := max_of f (n + 1) (by omega)
    rcases Int.le_total (f (n + 1)) (f k) with h | h
    · exact ⟨k, by omega, fun i hi => by rcases Nat.lt_or_ge i (n + 1) with h1 | h1; exact hm i h1; rw [show i = n + 1 by omega]; exact h⟩
    · exact ⟨n + 1, by omega, fun i hi => by rcases Nat.lt_or_ge i (n + 1) with h1 | h1; have := hm i h1; omega; rw [show i = n + 1 by omega]; omega⟩

/-- Round about, what is there somewhere and is not everywhere begins and ends. -/
theorem turn_over {n : Nat} {f : Nat → Bool} {a b : Nat} (ha : a < n) (hb : b < n) (h1 : f a = true) (h2 : f b = false) : ∃ k, k < n ∧ f k = true ∧ f (nx n k) = false := by
  rcases Nat.lt_or_ge 0 n with h0 | h0
  · by_cases hex : ∃ k, k < n ∧ f k = true ∧ f (nx n k) = false
    · exact hex
    · exfalso
      have step : ∀ k, k < n → f k = true → f (nx n k) = true := fun k hk hf => by
        cases e : f (nx n k) with
        | true => rfl
        | false => exact absurd ⟨k, hk, hf, e⟩ hex
      have all : ∀ t, f ((a + t) % n) = true := by
        intro t
        induction t with
        | zero => rw [Nat.add_zero, Nat.mod_eq_of_lt ha]; exact h1
        | succ t ih =>
          have := step _ (Nat.mod_lt _ h0) ih
          unfold nx at this
          rw [Nat.mod_add_mod] at this
          exact this
      have := all (b + n - a)
      rw [show a + (b + n - a) = b + n by omega, Nat.add_mod_right, Nat.mod_eq_of_lt hb, h2] at this
      cases this
  · omega

section
variable {l h : List Pt} {x : Pt}

theorem three_y (t p n x : Pt) : (x.2 - t.2) * crP t n p = (n.2 - t.2) * crP t x p + (p.2 - t.2) * crP t n x := by unfold crP crossI; grind

/-- There are corners above a post that lies strictly inside, and others not. -/
theorem inside_level (hh : IsHull l h) (hs : ∀ i, i < h.length → 0 < crP (hp h i) (hp h (nx h.length i)) x) : (∃ a, a < h.length ∧ hy h a ≤ x.2) ∧ (∃ b, b < h.length ∧ x.2 < hy h b) := by
  have l1 := hh.three
  have corner : ∀ k, k < h.length → 0 < crP (hp h k) (hp h (nx h.length k)) (hp h (pv h.length k)) ∧ 0 < crP (hp h k) x (hp h (pv h.length k)) ∧ 0 < crP (hp h k) (hp h (nx h.length k)) x := by
    intro k hk
    have hpk := pv_lt (n := h.length) k (by omega)
    refine ⟨strict_side hh hk hpk (by rcases pv_cases hk with ⟨_, e⟩ | ⟨_, e⟩ <;> omega) (by rcases nx_cases hk with ⟨_, e1⟩ | ⟨_, e1⟩ <;> rcases pv_cases hk with ⟨_, e2⟩ | ⟨_, e2⟩ <;> omega), ?_, hs k hk⟩
    have := hs _ hpk
    rw [nx_pv hk] at this
    have e : crP (hp h k) x (hp h (pv h.length k)) = crP (hp h (pv h.length k)) (hp h k) x := by unfold crP crossI; grind
    rw [e]; exact this
  constructor
  · obtain ⟨k, hk, hm⟩ := max_of (fun i => -hy h i) h.length (by omega)
    rcases ltOrGe x.2 (hy h k) with h1 | h1
    · exfalso
      obtain ⟨c1, c2, c3⟩ := corner k hk
      have id := three_y (hp h k) (hp h (pv h.length k)) (hp h (nx h.length k)) x
      have m1 := hm _ (pv_lt (n := h.length) k (by omega))
      have m2 := hm _ (nx_lt (n := h.length) k (by omega))
      have q1 := Int.mul_neg_of_neg_of_pos (show x.2 - (hp h k).2 < 0 by unfold hp; simp only; omega) c1
      have q2 := Int.mul_nonneg (show 0 ≤ (hp h (nx h.length k)).2 - (hp h k).2 by unfold hp; simp only; omega) (Int.le_of_lt c2)
      have q3 := Int.mul_nonneg (show 0 ≤ (hp h (pv h.length k)).2 - (hp h k).2 by unfold hp; simp only; omega) (Int.le_of_lt c3)
      omega
    · exact ⟨k, hk, h1⟩
  · obtain ⟨k, hk, hm⟩ := max_of (fun i => hy h i) h.length (by omega)
    rcases ltOrGe x.2 (hy h k) with h1 | h1
    · exact ⟨k, hk, h1⟩
    · exfalso
      obtain ⟨c1, c2, c3⟩ := corner k hk
      have id := three_y (hp h k) (hp h (pv h.length k)) (hp h (nx h.length k)) x
      have m1 := hm _ (pv_lt (n := h.length) k (by omega))
      have m2 := hm _ (nx_lt (n := h.length) k (by omega))
      have q1 := Int.mul_nonneg (show 0 ≤ x.2 - (hp h k).2 by unfold hp; simp only; omega) (Int.le_of_lt c1)
      have q2 := Int.mul_nonneg (show 0 ≤ (hp h k).2 - (hp h (nx h.length k)).2 by unfold hp; simp only; omega) (Int.le_of_lt c2)
      have q3 := Int.mul_nonneg (show 0 ≤ (hp h k).2 - (hp h (pv h.length k)).2 by unfold hp; simp only; omega) (Int.le_of_lt c3)
      have e1 : ((hp h k).2 - (hp h (nx h.length k)).2) * crP (hp h k) x (hp h (pv h.length k)) = -(((hp h (nx h.length k)).2 - (hp h k).2) * crP (hp h k) x (hp h (pv h.length k))) := by grind
      have e2 : ((hp h k).2 - (hp h (pv h.length k)).2) * crP (hp h k) (hp h (nx h.length k)) x = -(((hp h (pv h.length k)).2 - (hp h k).2) * crP (hp h k) (hp h (nx h.length k)) x) := by grind
      have z2 : ((hp h k).2 - (hp h (nx h.length k)).2) * crP (hp h k) x (hp h (pv h.length k)) = 0 := by omega
      have z3 : ((hp h k).2 - (hp h (pv h.length k)).2) * crP (hp h k) (hp h (nx h.length k)) x = 0 := by omega
      have y2 : (hp h k).2 = (hp h (nx h.length k)).2 := by rcases Int.mul_eq_zero.1 z2 with h | h <;> omega
      have y3 : (hp h k).2 = (hp h (pv h.length k)).2 := by rcases Int.mul_eq_zero.1 z3 with h | h <;> omega
      have : crP (hp h k) (hp h (nx h.length k)) (hp h (pv h.length k)) = 0 := by unfold crP crossI; rw [← y2, ← y3]; simp
      omega

/-- Two sides that go up do not both pass one level. -/
theorem one_up (hh : IsHull l h) {i j : Nat} (hi : i < h.length) (hj : j < h.length) (hne : i ≠ j) (y : Int) (a1 : hy h i ≤ y) (a2 : y < hy h (nx h.length i)) (b1 : hy h j ≤ y) (b2 : y < hy h (nx h.length j)) : False := by
  have l1 := hh.three
  have key : ∀ i j, i < h.length → j < h.length → i ≠ j → y < hy h (nx h.length i) → hy h j ≤ y → y < hy h (nx h.length j) →
      0 < (hy h (nx h.length j) - y) * crP (hp h i) (hp h (nx h.length i)) (hp h j) + (y - hy h j) * crP (hp h i) (hp h (nx h.length i)) (hp h (nx h.length j)) := by
    intro i j hi hj hne a2 b1 b2
    have s1 := strict_side hh hi hj (Ne.symm hne) (fun e => by rw [← e] at a2; omega)
    have hn := nx_lt (n := h.length) j (by omega)
    have s2 : 0 ≤ crP (hp h i) (hp h (nx h.length i)) (hp h (nx h.length j)) := by
      have := hh.side i _ _ (get_h hi) (get_h (nx_lt (n := h.length) i (by omega)))
      exact (this.2 _ (hh.sub _ (List.mem_of_getElem? (get_h hn)))).1
    have q1 := Int.mul_pos (show 0 < hy h (nx h.length j) - y by omega) s1
    have q2 := Int.mul_nonneg (show 0 ≤ y - hy h j by omega) s2
    omega
  have k1 := key i j hi hj hne a2 b1 b2
  have k2 := key j i hj hi (Ne.symm hne) b2 a1 a2
  have e : (hy h (nx h.length i) - hy h i) * ((hy h (nx h.length i) - y) * crP (hp h j) (hp h (nx h.length j)) (hp h i) + (y - hy h i) * crP (hp h j) (hp h (nx h.length j)) (hp h (nx h.length i)))  * 0 = 0 := by simp
  -- what each one's point at the level sees of the other one's side
  have id : (hy h (nx h.length i) - hy h i) * ((hy h (nx h.length j) - y) * crP (hp h i) (hp h (nx h.length i)) (hp h j) + (y - hy h j) * crP (hp h i) (hp h (nx h.length i)) (hp h (nx h.length j))) * (hy h (nx h.length j) - hy h j) * 0 = 0 := by simp
  have main : (hy h (nx h.length j) - y) * crP (hp h i) (hp h (nx h.length i)) (hp h j) + (y - hy h j) * crP (hp h i) (hp h (nx h.length i)) (hp h (nx h.length j)) = -((hy h (nx h.length i) - y) * crP (hp h j) (hp h (nx h.length j)) (hp h i) + (y - hy h i) * crP (hp h j) (hp h (nx h.length j)) (hp h (nx h.length i))) := by
    unfold crP crossI hp; simp only
    grind
  omega
end
end Go.Proofs.YtamhhbkjgfhfoaaDoor
