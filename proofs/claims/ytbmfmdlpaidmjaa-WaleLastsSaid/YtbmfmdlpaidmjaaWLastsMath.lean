/- Plans that last: from a state that is no end there is a plan of any length; the shares of a circle. -/
import Derived.Test.YtbmfmdlpaidmjaaWCircMath
import Derived.Test.YtbmfmdlpaidmjaaWShare2
namespace Go.Proofs.Ytbmfmdlpaidmjaa

section
variable {n m : Nat} {f t : Nat → Nat} {V : Nat → Int}
theorem wrow_less (R : Rot n m f t V) : ∀ (y s : Nat), y ≤ 700 → s < n → (wrow n m f t V (y + 1)).getD s 0 ≠ nope → (wrow n m f t V y).getD s 0 ≠ nope := by
  intro y
  induction y with
  | zero => intro s _ hs _; rw [wrow, getD_rep hs]; unfold nope; omega
  | succ y ih =>
    intro s hy hs h
    obtain ⟨i, hi, e, h1, _⟩ := wrow_from R hs h
    have := (wrow_upper R (by omega) hi (ih (t i) (by omega) (R.t i hi) h1)).2
    rwa [e] at this
theorem wrow_down (R : Rot n m f t V) {s : Nat} (hs : s < n) : ∀ (d y : Nat), y + d ≤ 700 → (wrow n m f t V (y + d)).getD s 0 ≠ nope → (wrow n m f t V y).getD s 0 ≠ nope := by
  intro d
  induction d with
  | zero => intro y _ h; exact h
  | succ d ih => intro y hy h; exact ih y (by omega) (wrow_less R (y + d) s (by omega) hs (by rw [Nat.add_assoc]; exact h))
theorem wrow_ever (R : Rot n m f t V) {s : Nat} (hs : s < n) (h : (wrow n m f t V n).getD s 0 ≠ nope) : ∀ y, y ≤ 700 → (wrow n m f t V y).getD s 0 ≠ nope := by
  obtain ⟨j, i, hsg⟩ := plan_circ R hs h
  have hf := planL_follows R n s hs h
  have hm := planL_lt R n s hs h
  have hh : f ((planL n m f t V n s).getD 0 0) = s := by
    have hn := R.n1
    obtain ⟨n', e⟩ : ∃ n', n = n' + 1 := ⟨n - 1, by omega⟩
    have := planL_head R (y := n') hs (by rw [← e]; exact h)
    rw [← e] at this
    exact this
  obtain ⟨h1, h2, h3, h4, _⟩ := segN_some hsg
  have hl := lastN_some h4
  have hback : f ((planL n m f t V n s).getD j 0) = t ((planL n m f t V n s).getD (i - 1) 0) := by simpa using hl.2
  generalize planL n m f t V n s = p at *
  have hpm : ∀ x, x < i → p.getD x 0 < m := fun x hx => by
    apply hm
    rw [List.getD_eq_getElem?_getD, List.getElem?_eq_getElem (by omega)]
    simp
  have key : ∀ y, y ≤ 700 → ∀ x, x < i → (wrow n m f t V y).getD (f (p.getD x 0)) 0 ≠ nope := by
    intro y
    induction y with
    | zero => intro _ x hx; rw [wrow, getD_rep (R.f _ (hpm x hx))]; unfold nope; omega
    | succ y ih =>
      intro hy x hx
      refine (wrow_upper R (by omega) (hpm x hx) ?_).2
      by_cases e : x + 1 < i
      · rw [← hf x (by omega)]
        exact ih (by omega) (x + 1) e
      · obtain rfl : x = i - 1 := by omega
        rw [← hback]
        exact ih (by omega) j h1
  intro y hy
  have := key y hy 0 (by omega)
  rwa [hh] at this
theorem lasts (R : Rot n m f t V) {s y : Nat} (hs : s < n) (hy : y ≤ 100) : (endS n m f t V s = false → ((List.range n).filter (endsB m f t s y)).length ≠ 0) ∧ (endS n m f t V s = true → n ≤ y → ((List.range n).filter (endsB m f t s y)).length = 0) := by
  have hn8 := R.n8
  unfold endS
  simp only [decide_eq_false_iff_not, decide_eq_true_eq]
  rw [List.length_eq_zero_iff, ne_eq, List.length_eq_zero_iff, List.filter_eq_nil_iff]
  constructor
  · intro h hn
    obtain ⟨r, hr⟩ := (wrow_ends R y s (by omega) hs).1 (wrow_ever R hs h y (by omega))
    exact hn r (List.mem_range.2 (endsB_lt R hs y r hr)) hr
  · intro h hy2 r _ hr
    have h1 := (wrow_ends R y s (by omega) hs).2 ⟨r, hr⟩
    exact wrow_down R hs (y - n) n (by omega) (by rw [show n + (y - n) = y by omega]; exact h1) h
/-- There is a circle exactly if not all states are ends. -/
theorem circle_iff (R : Rot n m f t V) : (bestC n m f t V n).length ≠ 0 ↔ ((List.range n).filter (endS n m f t V)).length < n := by
  have h := (bestC_ok R n (Nat.le_refl _)).2
  rw [ne_eq, h]
  have h2 : ((List.range n).filter (endS n m f t V)).length < n ↔ ∃ x ∈ List.range n, ¬ endS n m f t V x = true := by
    have := List.length_filter_lt_length_iff_exists (l := List.range n) (p := endS n m f t V)
    rw [List.length_range] at this
    exact this
  rw [h2]
  constructor
  · intro hn
    apply Classical.byContradiction
    intro hx
    apply hn
    intro r hr
    apply Classical.byContradiction
    intro hne
    exact hx ⟨r, List.mem_range.2 hr, by simp [endS]; exact hne⟩
  · rintro ⟨x, hx, hne⟩ hall
    apply hne
    simp only [endS, decide_eq_true_eq]
    exact hall x (List.mem_range.1 hx)
end
/-- How many of the first k changes begin at one of the first r states. -/
def sumS (f p : Nat → Nat) (k : Nat) : Nat → Nat
  | 0 => 0
  | r + 1 => sumS f p k r + cntF f p r k
theorem sumS_zero (f p : Nat → Nat) (r : Nat) : sumS f p 0 r = 0 := by
  induction r with
  | zero => rfl
  | succ r ih => rw [sumS, ih]; rfl
theorem sumS_succ (f p : Nat → Nat) (k r : Nat) : sumS f p (k + 1) r = sumS f p k r + if f (p k) < r then 1 else 0 := by
  induction r with
  | zero => simp [sumS]
  | succ r ih =>
    rw [sumS, sumS, ih, cntF]
    by_cases e : f (p k) = r
    · rw [if_neg (by omega), if_pos e, if_pos (by omega)]; omega
    · rw [if_neg e]
      by_cases e2 : f (p k) < r
      · rw [if_pos e2, if_pos (by omega)]; omega
      · rw [if_neg e2, if_neg (by omega)]
        omega
theorem sumS_all (f p : Nat → Nat) (n : Nat) : ∀ k, (∀ i, i < k → f (p i) < n) → sumS f p k n = k := by
  intro k
  induction k with
  | zero => intro _; exact sumS_zero f p n
  | succ k ih =>
    intro h
    rw [sumS_succ, ih fun i hi => h i (by omega), if_pos (h k (by omega))]
/-- In a circle a state begins one change at most. -/
theorem cntF_one (f p : Nat → Nat) (s : Nat) : ∀ k, diffB f p k = true → cntF f p s k ≤ 1 ∧ (cntF f p s k = 1 → ∃ j, j < k ∧ f (p j) = s) := by
  intro k
  induction k with
  | zero => intro _; simp [cntF]
  | succ k ih =>
    intro h
    rw [diffB_succ, Bool.and_eq_true] at h
    obtain ⟨h1, h2⟩ := ih h.1
    rw [cntF]
    by_cases e : f (p k) = s
    · rw [if_pos e]
      have hc : cntF f p s k = 0 := by
        apply Classical.byContradiction
        intro hne
        obtain ⟨j, hj, ej⟩ := h2 (by omega)
        have := allB_iff.1 h.2 j hj
        simp only [decide_eq_true_eq] at this
        exact this (ej.trans e.symm)
      exact ⟨by omega, fun _ => ⟨k, by omega, e⟩⟩
    · rw [if_neg e, Nat.add_zero]
      exact ⟨h1, fun h => let ⟨j, hj, ej⟩ := h2 h; ⟨j, by omega, ej⟩⟩
theorem low_zero (k : Nat) (hk : 0 < k) : lowN ((0 : Nat) : Int) k = 0 ∧ lowD ((0 : Nat) : Int) k = 1 := by
  unfold lowN lowD
  constructor
  · simp
  · simp [Nat.div_self hk]
theorem low_one (k : Nat) : lowN ((1 : Nat) : Int) k = 1 ∧ lowD ((1 : Nat) : Int) k = k := by
  unfold lowN lowD
  constructor
  · simp
  · simp
end Go.Proofs.Ytbmfmdlpaidmjaa
