/- A parcel without its straight corners is a parcel, with the same area and the same posts on its border; it has no straight corner. -/
import Derived.Test.YtamhhbkjgfhfoaaDoorMid
namespace Go.Proofs.YtamhhbkjgfhfoaaDoor
open Go.RowKit

theorem onSide_symm (ax ay bx b_y x y : Int) : onSideB bx b_y ax ay x y = onSideB ax ay bx b_y x y := by
  have e1 : crossI bx b_y ax ay x y = -crossI ax ay bx b_y x y := cross_swap _ _ _ _ _ _
  have e2 : dotI x y bx b_y ax ay = dotI x y ax ay bx b_y := by unfold dotI; grind
  unfold onSideB
  rw [e1, e2]
  congr 1
  rw [decide_eq_decide]; omega
theorem meet_symm (ax ay bx b_y cx cy dx dy : Int) : meetB cx cy dx dy ax ay bx b_y = meetB ax ay bx b_y cx cy dx dy := by
  unfold meetB
  cases onSideB cx cy dx dy ax ay <;> cases onSideB cx cy dx dy bx b_y <;> cases onSideB ax ay bx b_y cx cy <;> cases onSideB ax ay bx b_y dx dy <;> simp [Bool.and_comm]

/-- A parcel, said with the corners round about. -/
structure Parcel (n : Nat) (px py : Nat → Int) : Prop where
  three : 3 ≤ n
  few : n ≤ 40
  ranged : ∀ i, i < n → (inR (px i) && inR (py i)) = true
  differ : ∀ i k, i < n → k < n → i ≠ k → ¬ (px i = px k ∧ py i = py k)
  noBack : ∀ k, k < n → ¬ (crossI (px k) (py k) (px (pv n k)) (py (pv n k)) (px (nx n k)) (py (nx n k)) = 0 ∧ 0 < dotI (px k) (py k) (px (pv n k)) (py (pv n k)) (px (nx n k)) (py (nx n k)))
  apart : ∀ i k, i < n → k < n → i ≠ k → k ≠ nx n i → i ≠ nx n k → meetB (px i) (py i) (px (nx n i)) (py (nx n i)) (px k) (py k) (px (nx n k)) (py (nx n k)) = false

theorem parcel_iff {n : Nat} {px py : Nat → Int} : validB n px py = true ↔ Parcel n px py := by
  constructor
  · intro h
    simp only [validB, Bool.and_eq_true, decide_eq_true_eq] at h
    obtain ⟨⟨⟨h1, h2⟩, h3⟩, ⟨h4, h5⟩, h6⟩ := h
    refine ⟨h1, h2, allB_iff.1 h3, differ_iff.1 h4, fun k hk hb => ?_, ?_⟩
    · have := allB_iff.1 h5 k hk
      simp [backB, hb.1, hb.2] at this
    · have key : ∀ i k, i < k → k < n → k ≠ nx n i → i ≠ nx n k → meetB (px i) (py i) (px (nx n i)) (py (nx n i)) (px k) (py k) (px (nx n k)) (py (nx n k)) = false := by
        intro i k hik hk a b
        have := allB_iff.1 (allB_iff.1 h6 k hk) i hik
        have hn : neighB n i k = false := by
          simp only [neighB, Bool.or_eq_false_iff, Bool.and_eq_false_iff, decide_eq_false_iff_not]
          rcases nx_cases (show i < n by omega) with ⟨_, e⟩ | ⟨_, e⟩ <;> rcases nx_cases hk with ⟨_, e'⟩ | ⟨_, e'⟩ <;> omega
        have e : nx n i = i + 1 := by rcases nx_cases (show i < n by omega) with ⟨_, e⟩ | ⟨_, e⟩ <;> omega
        rw [hn, Bool.false_or] at this
        rw [e]
        simpa [sideMeetB] using this
      intro i k hi hk hne a b
      rcases Nat.lt_or_ge i k with h | h
      · exact key i k h hk a b
      · rw [← meet_symm]
        exact key k i (by omega) hi b a
  · intro h
    simp only [validB, Bool.and_eq_true, decide_eq_true_eq]
    refine ⟨⟨⟨h.three, h.few⟩, allB_true h.ranged⟩, ⟨differ_iff.2 h.differ, allB_true fun k hk => ?_⟩, allB_true fun k hk => allB_true fun i hi => ?_⟩
    · cases hb : backB n px py k with
      | false => rfl
      | true =>
        simp only [backB, Bool.and_eq_true, decide_eq_true_eq] at hb
        exact absurd hb (h.noBack k hk)
    · cases hn : neighB n i k with
      | true => rfl
      | false =>
        simp only [neighB, Bool.or_eq_false_iff, Bool.and_eq_false_iff, decide_eq_false_iff_not] at hn
        have e : nx n i = i + 1 := by rcases nx_cases (show i < n by omega) with ⟨_, e⟩ | ⟨_, e⟩ <;> omega
        have := h.apart i k (by omega) hk (by omega) (by omega) (by rcases nx_cases hk with ⟨_, e'⟩ | ⟨_, e'⟩ <;> omega)
        rw [e] at this
        simp [sideMeetB, this]

/-! One straight corner less. -/
def sk (k i : Nat) : Nat := if i < k then i else i + 1
theorem sk_lt {n k i : Nat} (hi : i < n - 1) : sk k i < n := by unfold sk; split <;> omega
theorem sk_ne (k i : Nat) : sk k i ≠ k := by unfold sk; split <;> omega
theorem sk_inj {k i j : Nat} (h : sk k i = sk k j) : i = j := by unfold sk at h; split at h <;> split at h <;> omega
theorem sk_sur {n k c : Nat} (hc : c < n) (hne : c ≠ k) (hk : k < n) : ∃ i, i < n - 1 ∧ sk k i = c := by
  by_cases h : c < k
  · exact ⟨c, by omega, by unfold sk; rw [if_pos h]⟩
  · exact ⟨c - 1, by omega, by unfold sk; rw [if_neg (by omega)]; omega⟩
theorem sk_cases (k i : Nat) : (i < k ∧ sk k i = i) ∨ (k ≤ i ∧ sk k i = i + 1) := by
  unfold sk; split
  · exact .inl ⟨by assumption, rfl⟩
  · exact .inr ⟨by omega, rfl⟩
theorem sk_nx {n k i : Nat} (h3 : 3 ≤ n) (hk : k < n) (hi : i < n - 1) : sk k (nx (n - 1) i) = if nx n (sk k i) = k then nx n k else nx n (sk k i) := by
  have hs := sk_lt (k := k) hi
  have c1 := nx_cases hi
  have c2 := nx_cases hs
  have c3 := nx_cases hk
  have c4 := sk_cases k i
  have c5 := sk_cases k (nx (n - 1) i)
  generalize nx (n - 1) i = a at *
  generalize nx n (sk k i) = b at *
  generalize nx n k = c at *
  generalize sk k i = d at *
  generalize sk k a = e at *
  split <;> omega
theorem sk_pv {n k i : Nat} (h3 : 3 ≤ n) (hk : k < n) (hi : i < n - 1) : sk k (pv (n - 1) i) = if pv n (sk k i) = k then pv n k else pv n (sk k i) := by
  have hs := sk_lt (k := k) hi
  have c1 := pv_cases hi
  have c2 := pv_cases hs
  have c3 := pv_cases hk
  have c4 := sk_cases k i
  have c5 := sk_cases k (pv (n - 1) i)
  generalize pv (n - 1) i = a at *
  generalize pv n (sk k i) = b at *
  generalize pv n k = c at *
  generalize sk k i = d at *
  generalize sk k a = e at *
  split <;> omega

theorem four_of_straight {n : Nat} {px py : Nat → Int} (h : Parcel n px py) {k : Nat} (hk : k < n) (hb : bendI n px py k = 0) : 4 ≤ n := by
  have h3 := h.three
  rcases Nat.lt_or_ge n 4 with h4 | h4
  · exfalso
    obtain rfl : n = 3 := by omega
    have m := mid_of (h.differ _ _ (pv_lt k (by omega)) hk (by rcases pv_cases hk with ⟨_, e⟩ | ⟨_, e⟩ <;> omega)) (h.differ _ _ hk (nx_lt k (by omega)) (by rcases nx_cases hk with ⟨_, e⟩ | ⟨_, e⟩ <;> omega)) hb (by
      have := h.noBack k hk
      have e : crossI (px k) (py k) (px (pv 3 k)) (py (pv 3 k)) (px (nx 3 k)) (py (nx 3 k)) = 0 := by
        unfold bendI at hb
        rw [cross_swap, hb]; rfl
      rcases ltOrGe 0 (dotI (px k) (py k) (px (pv 3 k)) (py (pv 3 k)) (px (nx 3 k)) (py (nx 3 k))) with h | h
      · exact absurd ⟨e, h⟩ this
      · exact h)
    obtain ⟨m⟩ := m
    -- at the corner before k the two sides leave in one direction
    have hp := pv_lt (n := 3) k (by omega)
    have e1 : nx 3 (pv 3 k) = k := nx_pv hk
    have e2 : pv 3 (pv 3 k) = nx 3 k := by
      rcases nx_cases hk with ⟨_, e⟩ | ⟨_, e⟩ <;> rcases pv_cases hk with ⟨_, e'⟩ | ⟨_, e'⟩ <;> rcases pv_cases hp with ⟨_, e''⟩ | ⟨_, e''⟩ <;> omega
    have := h.noBack _ hp
    rw [e1, e2] at this
    apply this
    have q1 := m.e1; have q2 := m.e2; have q3 := m.e3; have q4 := m.e4
    have hs := m.hs; have ht := m.ht
    have f1 : crossI (px (pv 3 k)) (py (pv 3 k)) (px (nx 3 k)) (py (nx 3 k)) (px k) (py k) = 0 := by unfold crossI; grind
    refine ⟨f1, ?_⟩
    have f2 : dotI (px (pv 3 k)) (py (pv 3 k)) (px (nx 3 k)) (py (nx 3 k)) (px k) (py k) = (m.s * (m.s + m.t)) * (m.dx * m.dx + m.dy * m.dy) := by unfold dotI; grind
    rw [f2]
    refine Int.mul_pos (Int.mul_pos hs (by omega)) ?_
    exact prim_pos m.prim
  · exact h4

section
variable {n k : Nat} {px py : Nat → Int}
def rmv (k : Nat) (f : Nat → Int) : Nat → Int := fun i => f (sk k i)

theorem mid_at (h : Parcel n px py) (hk : k < n) (hb : bendI n px py k = 0) : Nonempty (Mid (px (pv n k)) (py (pv n k)) (px k) (py k) (px (nx n k)) (py (nx n k))) := by
  have h3 := h.three
  refine mid_of (h.differ _ _ (pv_lt k (by omega)) hk (by rcases pv_cases hk with ⟨_, e⟩ | ⟨_, e⟩ <;> omega)) (h.differ _ _ hk (nx_lt k (by omega)) (by rcases nx_cases hk with ⟨_, e⟩ | ⟨_, e⟩ <;> omega)) hb ?_
  have := h.noBack k hk
  have e : crossI (px k) (py k) (px (pv n k)) (py (pv n k)) (px (nx n k)) (py (nx n k)) = 0 := by
    unfold bendI at hb
    rw [cross_swap, hb]; rfl
  rcases ltOrGe 0 (dotI (px k) (py k) (px (pv n k)) (py (pv n k)) (px (nx n k)) (py (nx n k))) with h | h
  · exact absurd ⟨e, h⟩ this
  · exact h

theorem nx_ne {i : Nat} (h2 : 2 ≤ n) (hi : i < n) : nx n i ≠ i := by rcases nx_cases hi with ⟨_, e⟩ | ⟨_, e⟩ <;> omega
theorem pv_ne {i : Nat} (h2 : 2 ≤ n) (hi : i < n) : pv n i ≠ i := by rcases pv_cases hi with ⟨_, e⟩ | ⟨_, e⟩ <;> omega
theorem nx_inj {i j : Nat} (hi : i < n) (hj : j < n) (h : nx n i = nx n j) : i = j := by rw [← pv_nx hi, h, pv_nx hj]
theorem nx_eq_iff {i j : Nat} (hi : i < n) (hj : j < n) : nx n i = j ↔ i = pv n j := by
  constructor
  · rintro rfl; rw [pv_nx hi]
  · rintro rfl; rw [nx_pv hj]

theorem parcel_rmv (h : Parcel n px py) (hk : k < n) (hb : bendI n px py k = 0) : Parcel (n - 1) (rmv k px) (rmv k py) := by
  have h4 := four_of_straight h hk hb
  obtain ⟨m⟩ := mid_at h hk hb
  have hpk := pv_lt (n := n) k (by omega)
  have hnk := nx_lt (n := n) k (by omega)
  have npk := nx_pv hk
  refine ⟨by omega, by have := h.few; omega, fun i hi => h.ranged _ (sk_lt hi), fun i j hi hj hne => h.differ _ _ (sk_lt hi) (sk_lt hj) (fun e => hne (sk_inj e)), ?_, ?_⟩
  · intro i hi
    have hs := sk_lt (k := k) hi
    have hne := sk_ne k i
    unfold rmv
    rw [sk_nx (by omega) hk hi, sk_pv (by omega) hk hi]
    generalize sk k i = c at *
    have hnb := h.noBack c hs
    by_cases h1 : nx n c = k
    · have hc : c = pv n k := (nx_eq_iff hs hk).1 h1
      have h2 : pv n c ≠ k := by
        rw [hc]
        rcases pv_cases hk with ⟨_, e⟩ | ⟨_, e⟩ <;> rcases pv_cases hpk with ⟨_, e'⟩ | ⟨_, e'⟩ <;> omega
      rw [if_pos h1, if_neg h2]
      rw [h1] at hnb
      rw [hc] at hnb ⊢
      rwa [back_a m]
    · rw [if_neg h1]
      by_cases h2 : pv n c = k
      · have hc : c = nx n k := by rw [← h2, nx_pv hs]
        rw [if_pos h2]
        rw [h2] at hnb
        rw [hc] at hnb ⊢
        rwa [back_c m]
      · rw [if_neg h2]; exact hnb
  · intro i j hi hj hne h1 h2
    have hsi := sk_lt (k := k) hi
    have hsj := sk_lt (k := k) hj
    have hnei := sk_ne k i
    have hnej := sk_ne k j
    have g1 : sk k j ≠ sk k (nx (n - 1) i) := fun e => h1 (sk_inj e)
    have g2 : sk k i ≠ sk k (nx (n - 1) j) := fun e => h2 (sk_inj e)
    have g0 : sk k i ≠ sk k j := fun e => hne (sk_inj e)
    unfold rmv
    rw [sk_nx (by omega) hk hi] at g1 ⊢
    rw [sk_nx (by omega) hk hj] at g2 ⊢
    generalize sk k i = c at *
    generalize sk k j = d at *
    -- the long side against another one
    have long : ∀ d, d < n → d ≠ k → d ≠ pv n k → d ≠ nx n k → nx n d ≠ k → pv n k ≠ nx n d → meetB (px (pv n k)) (py (pv n k)) (px (nx n k)) (py (nx n k)) (px d) (py d) (px (nx n d)) (py (nx n d)) = false := by
      intro d hd a1 a2 a3 a4 a5
      have q1 := h.apart (pv n k) d hpk hd (Ne.symm a2) (by rw [npk]; exact a1) a5
      have q2 := h.apart k d hk hd (Ne.symm a1) a3 (Ne.symm a4)
      rw [npk] at q1
      cases hm : meetB (px (pv n k)) (py (pv n k)) (px (nx n k)) (py (nx n k)) (px d) (py d) (px (nx n d)) (py (nx n d)) with
      | false => rfl
      | true =>
        rcases meet_parts m hm with e | e
        · rw [q1] at e; cases e
        · rw [q2] at e; cases e
    by_cases c1 : nx n c = k
    · have hc : c = pv n k := (nx_eq_iff hsi hk).1 c1
      have d1 : nx n d ≠ k := fun e => g0 (nx_inj hsi hsj (c1.trans e.symm))
      rw [if_pos c1] at g1 ⊢
      rw [if_neg d1] at g2 ⊢
      rw [hc] at g0 g2 ⊢
      exact long d hsj hnej (Ne.symm g0) g1 d1 g2
    · rw [if_neg c1] at g1 ⊢
      by_cases d1 : nx n d = k
      · have hd : d = pv n k := (nx_eq_iff hsj hk).1 d1
        rw [if_pos d1] at g2 ⊢
        rw [hd] at g0 g1 ⊢
        rw [meet_symm]
        exact long c hsi hnei g0 g2 c1 g1
      · rw [if_neg d1] at g2 ⊢
        exact h.apart c d hsi hsj g0 g1 g2

/-- The other corners stay straight, or not. -/
theorem bend_rmv (h : Parcel n px py) (hk : k < n) (hb : bendI n px py k = 0) {i : Nat} (hi : i < n - 1) : bendI (n - 1) (rmv k px) (rmv k py) i = 0 ↔ bendI n px py (sk k i) = 0 := by
  have h4 := four_of_straight h hk hb
  obtain ⟨m⟩ := mid_at h hk hb
  have hpk := pv_lt (n := n) k (by omega)
  have hs := sk_lt (k := k) hi
  have hne := sk_ne k i
  unfold bendI rmv
  rw [sk_nx (by omega) hk hi, sk_pv (by omega) hk hi]
  generalize sk k i = c at *
  by_cases h1 : nx n c = k
  · have hc : c = pv n k := (nx_eq_iff hs hk).1 h1
    have h2 : pv n c ≠ k := by
      rw [hc]
      rcases pv_cases hk with ⟨_, e⟩ | ⟨_, e⟩ <;> rcases pv_cases hpk with ⟨_, e'⟩ | ⟨_, e'⟩ <;> omega
    rw [if_pos h1, if_neg h2, h1, hc]
    exact bend_a m _ _
  · rw [if_neg h1]
    by_cases h2 : pv n c = k
    · have hc : c = nx n k := by rw [← h2, nx_pv hs]
      rw [if_pos h2, h2, hc]
      exact bend_c m _ _
    · rw [if_neg h2]

theorem sumN_skip (g : Nat → Int) : ∀ (n k : Nat), k < n → sumN n g = g k + sumN (n - 1) fun i => g (sk k i)
  | 0, _, h => by omega
  | n + 1, k, h => by
    simp only [sumN, Nat.add_sub_cancel]
    rcases Nat.lt_or_ge k n with hlt | hge
    · rw [sumN_skip g n k hlt]
      obtain ⟨n, rfl⟩ : ∃ m, n = m + 1 := ⟨n - 1, by omega⟩
      simp only [sumN, Nat.add_sub_cancel]
      have : sk k n = n + 1 := by unfold sk; rw [if_neg (by omega)]
      rw [this]
      omega
    · obtain rfl : k = n := by omega
      rw [sumN_congr (f := fun i => g (sk k i)) (g := g) k (fun i hi => by simp only [sk]; rw [if_pos hi])]
      omega
theorem sumN_but (f g : Nat → Int) (i0 : Nat) : ∀ n, i0 < n → (∀ i, i < n → i ≠ i0 → f i = g i) → sumN n f = sumN n g + f i0 - g i0
  | 0, h, _ => by omega
  | n + 1, h, hfg => by
    simp only [sumN]
    rcases Nat.lt_or_ge i0 n with hlt | hge
    · rw [sumN_but f g i0 n hlt (fun i hi => hfg i (by omega)), hfg n (by omega) (by omega)]
      omega
    · obtain rfl : i0 = n := by omega
      rw [sumN_congr (f := f) (g := g) i0 (fun i hi => hfg i (by omega) (by omega))]
      omega

/-- A sum over the sides, where the long side counts as its parts together. -/
theorem sum_rmv (F : Nat → Nat → Int) (h4 : 4 ≤ n) (hk : k < n) (hF : F (pv n k) (nx n k) = F (pv n k) k + F k (nx n k)) :
    (sumN (n - 1) fun i => F (sk k i) (sk k (nx (n - 1) i))) = sumN n fun i => F i (nx n i) := by
  have hpk := pv_lt (n := n) k (by omega)
  obtain ⟨i0, h0, e0⟩ := sk_sur hpk (pv_ne (by omega) hk) hk
  rw [sumN_skip (fun i => F i (nx n i)) n k hk, sumN_but (fun i => F (sk k i) (sk k (nx (n - 1) i))) (fun i => F (sk k i) (nx n (sk k i))) i0 (n - 1) h0 (fun i hi hne => ?_)]
  · rw [sk_nx (by omega) hk h0, e0, if_pos (nx_pv hk), nx_pv hk, hF]
    omega
  · rw [sk_nx (by omega) hk hi, if_neg]
    intro e
    exact hne (sk_inj (k := k) (((nx_eq_iff (sk_lt hi) hk).1 e).trans e0.symm))

theorem area_rmv (h : Parcel n px py) (hk : k < n) (hb : bendI n px py k = 0) : areaI (n - 1) (rmv k px) (rmv k py) = areaI n px py := by
  refine sum_rmv (fun i j => crossI 0 0 (px i) (py i) (px j) (py j)) (four_of_straight h hk hb) hk ?_
  show crossI 0 0 (px (pv n k)) (py (pv n k)) (px (nx n k)) (py (nx n k)) = crossI 0 0 (px (pv n k)) (py (pv n k)) (px k) (py k) + crossI 0 0 (px k) (py k) (px (nx n k)) (py (nx n k))
  unfold bendI at hb
  unfold crossI at *
  grind
theorem border_rmv (h : Parcel n px py) (hk : k < n) (hb : bendI n px py k = 0) : borderI (n - 1) (rmv k px) (rmv k py) = borderI n px py := by
  obtain ⟨m⟩ := mid_at h hk hb
  exact sum_rmv (fun i j => ((Nat.gcd (px j - px i).natAbs (py j - py i).natAbs : Nat) : Int)) (four_of_straight h hk hb) hk (gcd_sum m)
end

/-- The corners that bend. -/
def kept (n : Nat) (px py : Nat → Int) : List Nat := (List.range n).filter fun i => decide (bendI n px py i ≠ 0)
theorem kept_rmv {n k : Nat} {px py : Nat → Int} (h : Parcel n px py) (hk : k < n) (hb : bendI n px py k = 0) : (kept (n - 1) (rmv k px) (rmv k py)).map (sk k) = kept n px py := by
  unfold kept
  have e1 : (List.range n).filter (fun i => decide (bendI n px py i ≠ 0)) = ((List.range (n - 1)).map (sk k)).filter fun i => decide (bendI n px py i ≠ 0) := by
    have split3 : List.range n = List.range k ++ k :: (List.range (n - 1 - k)).map (fun j => k + 1 + j) := by
      apply List.ext_getElem
      · simp; omega
      · intro i h1 h2
        simp only [List.getElem_range, List.getElem_append, List.length_range]
        split
        · simp
        · simp only [List.getElem_cons]
          split
          · omega
          · simp; omega
    have split2 : (List.range (n - 1)).map (sk k) = List.range k ++ (List.range (n - 1 - k)).map (fun j => k + 1 + j) := by
      apply List.ext_getElem
      · simp; omega
      · intro i h1 h2
        simp only [List.getElem_map, List.getElem_range, List.getElem_append, List.length_range]
        have := sk_cases k i
        split
        · omega
        · omega
    rw [split3, split2, List.filter_append, List.filter_append, List.filter_cons, if_neg (by simp [hb])]
  rw [e1, List.filter_map]
  congr 1
  apply List.filter_congr
  intro i hi
  have := bend_rmv h hk hb (List.mem_range.1 hi)
  simp only [Function.comp, decide_eq_decide]
  omega

theorem sumN_of_congr {n : Nat} {px py qx qy : Nat → Int} (hx : ∀ i, i < n → px i = qx i) (hy : ∀ i, i < n → py i = qy i) : areaI n px py = areaI n qx qy ∧ borderI n px py = borderI n qx qy := by
  constructor
  · exact sumN_congr n fun i hi => by have := nx_lt (n := n) i (by omega); rw [hx i hi, hy i hi, hx _ this, hy _ this]
  · exact sumN_congr n fun i hi => by have := nx_lt (n := n) i (by omega); rw [hx i hi, hy i hi, hx _ this, hy _ this]
theorem bend_congr {n : Nat} {px py qx qy : Nat → Int} (hx : ∀ i, i < n → px i = qx i) (hy : ∀ i, i < n → py i = qy i) {i : Nat} (hi : i < n) : bendI n px py i = bendI n qx qy i := by
  have h1 := nx_lt (n := n) i (by omega)
  have h2 := pv_lt (n := n) i (by omega)
  unfold bendI
  rw [hx i hi, hy i hi, hx _ h1, hy _ h1, hx _ h2, hy _ h2]
theorem Parcel.congr {n : Nat} {px py qx qy : Nat → Int} (hx : ∀ i, i < n → px i = qx i) (hy : ∀ i, i < n → py i = qy i) (h : Parcel n px py) : Parcel n qx qy := by
  have h3 := h.three
  have a1 := fun i (_ : i < n) => nx_lt (n := n) i (by omega)
  have a2 := fun i (_ : i < n) => pv_lt (n := n) i (by omega)
  refine ⟨h3, h.few, fun i hi => ?_, fun i k hi hk => ?_, fun k hk => ?_, fun i k hi hk => ?_⟩
  · rw [← hx i hi, ← hy i hi]; exact h.ranged i hi
  · rw [← hx i hi, ← hy i hi, ← hx k hk, ← hy k hk]; exact h.differ i k hi hk
  · have b1 := a1 k hk; have b2 := a2 k hk
    rw [← hx k hk, ← hy k hk, ← hx _ b1, ← hy _ b1, ← hx _ b2, ← hy _ b2]; exact h.noBack k hk
  · have b1 := a1 k hk; have b2 := a1 i hi
    rw [← hx k hk, ← hy k hk, ← hx i hi, ← hy i hi, ← hx _ b1, ← hy _ b1, ← hx _ b2, ← hy _ b2]; exact h.apart i k hi hk

theorem filter_len_le {α : Type} (p : α → Bool) : ∀ l : List α, (l.filter p).length ≤ l.length := fun l => List.length_filter_le p l
theorem kept_le (n : Nat) (px py : Nat → Int) : (kept n px py).length ≤ n := by
  have := List.length_filter_le (fun i => decide (bendI n px py i ≠ 0)) (List.range n)
  simpa [kept] using this

/-- A parcel without its straight corners. -/
theorem straight_main : ∀ (N n : Nat) (px py : Nat → Int), n ≤ N → Parcel n px py → ∀ sx sy : Nat → Int, (∀ i, i < (kept n px py).length → sx i = px ((kept n px py).getD i 0) ∧ sy i = py ((kept n px py).getD i 0)) →
    Parcel (kept n px py).length sx sy ∧ areaI (kept n px py).length sx sy = areaI n px py ∧ borderI (kept n px py).length sx sy = borderI n px py ∧ ∀ i, i < (kept n px py).length → bendI (kept n px py).length sx sy i ≠ 0 := by
  intro N
  induction N with
  | zero => intro n px py hn h; have := h.three; omega
  | succ N ih =>
    intro n px py hn h sx sy hs
    by_cases hex : ∃ k, k < n ∧ bendI n px py k = 0
    · obtain ⟨k, hk, hb⟩ := hex
      have hp := parcel_rmv h hk hb
      have hm := kept_rmv h hk hb
      have hl : (kept (n - 1) (rmv k px) (rmv k py)).length = (kept n px py).length := by rw [← hm, List.length_map]
      have := ih (n - 1) (rmv k px) (rmv k py) (by have := h.three; omega) hp sx sy (fun i hi => by
        rw [hl] at hi
        obtain ⟨e1, e2⟩ := hs i hi
        have : (kept n px py).getD i 0 = sk k ((kept (n - 1) (rmv k px) (rmv k py)).getD i 0) := by
          have h1 : i < (kept (n - 1) (rmv k px) (rmv k py)).length := by omega
          have h2 : (kept n px py)[i]? = some (sk k ((kept (n - 1) (rmv k px) (rmv k py))[i])) := by
            rw [← hm, List.getElem?_map, List.getElem?_eq_getElem h1]; rfl
          rw [List.getD_eq_getElem?_getD, List.getD_eq_getElem?_getD, h2, List.getElem?_eq_getElem h1]; rfl
        rw [e1, e2, this]
        exact ⟨rfl, rfl⟩)
      rw [hl, area_rmv h hk hb, border_rmv h hk hb] at this
      exact this
    · have hall : ∀ k, k < n → bendI n px py k ≠ 0 := fun k hk e => hex ⟨k, hk, e⟩
      have hk : kept n px py = List.range n := by
        unfold kept
        rw [List.filter_eq_self]
        intro i hi
        simp [hall i (List.mem_range.1 hi)]
      rw [hk, List.length_range] at hs ⊢
      have hx : ∀ i, i < n → px i = sx i := fun i hi => by rw [(hs i hi).1]; simp [hi]
      have hy : ∀ i, i < n → py i = sy i := fun i hi => by rw [(hs i hi).2]; simp [hi]
      have e := sumN_of_congr hx hy
      exact ⟨h.congr hx hy, e.1.symm, e.2.symm, fun i hi => by rw [← bend_congr hx hy hi]; exact hall i hi⟩
end Go.Proofs.YtamhhbkjgfhfoaaDoor
