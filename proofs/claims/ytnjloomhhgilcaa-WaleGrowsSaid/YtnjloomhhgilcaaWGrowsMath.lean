/- Greatest worths: no plan is worth more; the first plan is worth as much; plans put together end where they end. -/
import Derived.Test.YtnjloomhhgilcaaWAfter2
import Derived.Test.YtnjloomhhgilcaaWFollow
namespace Go.Proofs.Ytnjloomhhgilcaa

section
variable {n m : Nat} {f t : Nat → Nat} {V : Nat → Int} {row : List Int}
theorem relax_upper (R : Rot n m f t V) : ∀ k, k ≤ m → ∀ i, i < k → row.getD (t i) 0 ≠ nope → V i + row.getD (t i) 0 ≤ (relax n f t V row k).getD (f i) 0 := by
  intro k
  induction k with
  | zero => intro _ i hi; omega
  | succ k ih =>
    intro hk i hi hne
    unfold relax
    by_cases e : i = k
    · subst e
      rw [if_neg hne, getD_set_i (by rw [relax_length]; exact R.f i hk), if_pos rfl]
      omega
    · have h := ih (by omega) i (by omega) hne
      split
      · exact h
      · rw [getD_set_i (by rw [relax_length]; exact R.f k hk)]
        split
        · rename_i e2
          rw [e2] at h
          omega
        · exact h
theorem wrow_upper (R : Rot n m f t V) {y i : Nat} (hy : y ≤ 800) (hi : i < m) (h : (wrow n m f t V y).getD (t i) 0 ≠ nope) :
    V i + (wrow n m f t V y).getD (t i) 0 ≤ (wrow n m f t V (y + 1)).getD (f i) 0 ∧ (wrow n m f t V (y + 1)).getD (f i) 0 ≠ nope := by
  have h1 := relax_upper (row := wrow n m f t V y) R m (Nat.le_refl _) i hi h
  have h2 := (wrow_small R y (by omega) (t i) (R.t i hi)).resolve_left h
  have h3 := R.v i hi
  have e : wrow n m f t V (y + 1) = relax n f t V (wrow n m f t V y) m := rfl
  rw [e]
  refine ⟨h1, ?_⟩
  unfold nope
  omega
theorem fol_shift (c : Nat → Int) (s : Nat) : ∀ k, fol m f t c s (k + 1) = if inS m (c 0) = true ∧ f (c 0).toNat = s then fol m f t (fun i => c (i + 1)) (t (c 0).toNat) k else none := by
  intro k
  induction k with
  | zero => rfl
  | succ k ih =>
    have e : fol m f t c s (k + 1 + 1) = match fol m f t c s (k + 1) with
      | none => none
      | some a => if inS m (c (k + 1)) = true ∧ f (c (k + 1)).toNat = a then some (t (c (k + 1)).toNat) else none := rfl
    rw [e, ih]
    by_cases h : inS m (c 0) = true ∧ f (c 0).toNat = s
    · rw [if_pos h, if_pos h]; rfl
    · rw [if_neg h, if_neg h]
theorem wor_shift (c : Nat → Nat) : ∀ k, wor V c (k + 1) = V (c 0) + wor V (fun i => c (i + 1)) k := by
  intro k
  induction k with
  | zero => simp [wor]
  | succ k ih =>
    have e : wor V c (k + 1 + 1) = wor V c (k + 1) + V (c (k + 1)) := rfl
    have e2 : wor V (fun i => c (i + 1)) (k + 1) = wor V (fun i => c (i + 1)) k + V (c (k + 1)) := rfl
    rw [e, ih, e2]
    omega
/-- No plan is worth more than the greatest worth. -/
theorem fol_upper (R : Rot n m f t V) : ∀ (k : Nat) (c : Nat → Int) (s : Nat), k ≤ 800 → s < n → (fol m f t c s k).isSome = true → (wrow n m f t V k).getD s 0 ≠ nope ∧ wor V (fun i => (c i).toNat) k ≤ (wrow n m f t V k).getD s 0 := by
  intro k
  induction k with
  | zero =>
    intro c s _ hs _
    rw [wrow, getD_rep hs]
    exact ⟨by unfold nope; omega, by simp [wor]⟩
  | succ k ih =>
    intro c s hk hs h
    rw [fol_shift] at h
    split at h
    · rename_i h0
      obtain ⟨i, hi, him⟩ := inS_true h0.1
      rw [hi, Int.toNat_natCast] at h0 h
      have h1 := ih (fun j => c (j + 1)) (t i) (by omega) (R.t i him) h
      have h2 := wrow_upper R (by omega) him h1.1
      rw [h0.2] at h2
      refine ⟨h2.2, ?_⟩
      rw [wor_shift]
      rw [hi, Int.toNat_natCast]
      have h3 := h1.2
      omega
    · cases h
/-- The first plan is a plan, and worth as much. -/
theorem plan_fol (R : Rot n m f t V) : ∀ (y s : Nat), s < n → (wrow n m f t V y).getD s 0 ≠ nope →
    (fol m f t (fun i => ((planL n m f t V y s).getD i 0 : Nat)) s y).isSome = true ∧ wor V (fun i => (planL n m f t V y s).getD i 0) y = (wrow n m f t V y).getD s 0 := by
  intro y
  induction y with
  | zero => intro s hs _; exact ⟨rfl, by rw [wrow, getD_rep hs]; rfl⟩
  | succ y ih =>
    intro s hs h
    obtain ⟨h1, h2, _⟩ := pick_ok R hs h
    obtain ⟨h3, h4, h5⟩ := stepB_iff.1 h2
    obtain ⟨h6, h7⟩ := ih _ (R.t _ h1) h4
    have e : planL n m f t V (y + 1) s = pick m f t V (wrow n m f t V (y + 1)) (wrow n m f t V y) s :: planL n m f t V y (t (pick m f t V (wrow n m f t V (y + 1)) (wrow n m f t V y) s)) := rfl
    rw [e]
    generalize pick m f t V (wrow n m f t V (y + 1)) (wrow n m f t V y) s = i at *
    generalize planL n m f t V y (t i) = l at *
    constructor
    · rw [fol_shift]
      simp only [List.getD_cons_zero, List.getD_cons_succ, Int.toNat_natCast]
      rw [if_pos ⟨inS_nat h1, h3⟩]
      exact h6
    · rw [wor_shift]
      simp only [List.getD_cons_zero, List.getD_cons_succ]
      rw [h7, h5]
theorem plan_head (R : Rot n m f t V) {y s : Nat} (hs : s < n) (h : (wrow n m f t V (y + 1)).getD s 0 ≠ nope) :
    (planL n m f t V (y + 1) s).getD 0 0 < m ∧ (wrow n m f t V y).getD (t ((planL n m f t V (y + 1) s).getD 0 0)) 0 ≠ nope ∧
      (wrow n m f t V y).getD (t ((planL n m f t V (y + 1) s).getD 0 0)) 0 + V ((planL n m f t V (y + 1) s).getD 0 0) = (wrow n m f t V (y + 1)).getD s 0 := by
  obtain ⟨h1, h2, _⟩ := pick_ok R hs h
  obtain ⟨h3, h4, h5⟩ := stepB_iff.1 h2
  have e : planL n m f t V (y + 1) s = pick m f t V (wrow n m f t V (y + 1)) (wrow n m f t V y) s :: planL n m f t V y (t (pick m f t V (wrow n m f t V (y + 1)) (wrow n m f t V y) s)) := rfl
  rw [e, List.getD_cons_zero]
  exact ⟨h1, h4, by omega⟩
end
section
variable {m : Nat} {f t : Nat → Nat}
theorem endsB_iff {start y s : Nat} : endsB m f t start (y + 1) s = true ↔ ∃ i, i < m ∧ endsB m f t start y (f i) = true ∧ t i = s := by
  rw [endsB]
  constructor
  · intro h
    cases ha : allB m (fun i => !(endsB m f t start y (f i) && decide (t i = s)))
    · have := mt allB_iff.2 (by rw [ha]; simp : ¬ allB m (fun i => !(endsB m f t start y (f i) && decide (t i = s))) = true)
      apply Classical.byContradiction
      intro hn
      apply this
      intro i hi
      cases hb : (endsB m f t start y (f i) && decide (t i = s))
      · rfl
      · simp only [Bool.and_eq_true, decide_eq_true_eq] at hb
        exact absurd ⟨i, hi, hb⟩ hn
    · rw [ha] at h; cases h
  · rintro ⟨i, hi, h1, h2⟩
    cases ha : allB m (fun i => !(endsB m f t start y (f i) && decide (t i = s)))
    · rfl
    · have := allB_iff.1 ha i hi
      rw [h1, decide_eq_true h2] at this
      cases this
/-- Plans put together. -/
theorem endsB_add {start x s : Nat} : ∀ y, endsB m f t start (x + y) s = true ↔ ∃ q, endsB m f t start x q = true ∧ endsB m f t q y s = true := by
  intro y
  induction y generalizing s with
  | zero =>
    rw [Nat.add_zero]
    simp only [endsB, decide_eq_true_eq]
    exact ⟨fun h => ⟨s, h, rfl⟩, fun ⟨q, h, e⟩ => e ▸ h⟩
  | succ y ih =>
    rw [← Nat.add_assoc, endsB_iff]
    constructor
    · rintro ⟨i, hi, h1, h2⟩
      obtain ⟨q, h3, h4⟩ := ih.1 h1
      exact ⟨q, h3, endsB_iff.2 ⟨i, hi, h4, h2⟩⟩
    · rintro ⟨q, h3, h4⟩
      obtain ⟨i, hi, h5, h6⟩ := endsB_iff.1 h4
      exact ⟨i, hi, ih.2 ⟨q, h3, h5⟩, h6⟩
theorem ends_all {n start x y s : Nat} (hlt : ∀ q, endsB m f t start x q = true → q < n) : (((List.range n).filter (endsB m f t start x)).any fun q => endsB m f t q y s) = endsB m f t start (x + y) s := by
  rw [Bool.eq_iff_iff, endsB_add, List.any_eq_true]
  constructor
  · rintro ⟨q, h1, h2⟩
    exact ⟨q, (List.mem_filter.1 h1).2, h2⟩
  · rintro ⟨q, h1, h2⟩
    exact ⟨q, List.mem_filter.2 ⟨List.mem_range.2 (hlt q h1), h1⟩, h2⟩
end
end Go.Proofs.Ytnjloomhhgilcaa
