/- The first circle of a plan is a circle, and every plan of as many changes as states holds one. -/
import Derived.Test.YtbmfmdlpaidmjaaWEnds2
namespace Go.Proofs.Ytbmfmdlpaidmjaa

theorem nodup_small : ∀ (n : Nat) (l : List Nat), l.Nodup → (∀ x ∈ l, x < n) → l.length ≤ n := by
  intro n
  induction n with
  | zero => intro l _ h; cases l with
    | nil => simp
    | cons a l => exact absurd (h a (by simp)) (by omega)
  | succ n ih =>
    intro l hl h
    by_cases hm : n ∈ l
    · have h1 := ih (l.erase n) (hl.erase n) fun x hx => by
        have h2 := (List.Nodup.mem_erase_iff hl).1 hx
        have := h x h2.2
        have := h2.1
        omega
      rw [List.length_erase_of_mem hm] at h1
      omega
    · have h1 := ih l hl fun x hx => by
        have := h x hx
        by_cases e : x = n
        · subst e; exact absurd hx hm
        · omega
      omega
/-- Every change of p begins where the one ahead of it ends. -/
def Follows (f t : Nat → Nat) (p : List Nat) : Prop := ∀ i, i + 1 < p.length → f (p.getD (i + 1) 0) = t (p.getD i 0)
section
variable {n m : Nat} {f t : Nat → Nat} {V : Nat → Int}
theorem planL_head (R : Rot n m f t V) {y s : Nat} (hs : s < n) (h : (wrow n m f t V (y + 1)).getD s 0 ≠ nope) : f ((planL n m f t V (y + 1) s).getD 0 0) = s := by
  obtain ⟨h1, h2, _⟩ := pick_ok R hs h
  exact (stepB_iff.1 h2).1
theorem planL_follows (R : Rot n m f t V) : ∀ (y s : Nat), s < n → (wrow n m f t V y).getD s 0 ≠ nope → Follows f t (planL n m f t V y s) := by
  intro y
  induction y with
  | zero => intro s _ _ i hi; rw [planL_length] at hi; omega
  | succ y ih =>
    intro s hs h i hi
    obtain ⟨h1, h2, _⟩ := pick_ok R hs h
    obtain ⟨_, h4, _⟩ := stepB_iff.1 h2
    have h5 := ih _ (R.t _ h1) h4
    have e : planL n m f t V (y + 1) s = pick m f t V (wrow n m f t V (y + 1)) (wrow n m f t V y) s :: planL n m f t V y (t (pick m f t V (wrow n m f t V (y + 1)) (wrow n m f t V y) s)) := rfl
    rw [planL_length] at hi
    rw [e]
    rcases i with _ | i
    · obtain ⟨y', rfl⟩ : ∃ y', y = y' + 1 := ⟨y - 1, by omega⟩
      rw [List.getD_cons_succ, List.getD_cons_zero]
      exact planL_head R (R.t _ h1) h4
    · rw [List.getD_cons_succ, List.getD_cons_succ]
      exact h5 i (by rw [planL_length]; omega)
end
section
variable {m : Nat} {f t : Nat → Nat} {p : List Nat}
theorem back_none {i j : Nat} (h : backN f t p i = none) (hj : j ≤ i) : f (p.getD j 0) ≠ t (p.getD i 0) := by
  have := lastN_none h j (by omega)
  simpa using this
/-- A plan that holds no circle has fewer changes than there are states. -/
theorem seg_none_short {n : Nat} (hp : Follows f t p) (h0 : 0 < p.length) (hf : ∀ i, i < p.length → f (p.getD i 0) < n) (ht : ∀ i, i < p.length → t (p.getD i 0) < n) (h : segN f t p p.length 0 = none) : p.length < n := by
  have hb := segN_none h
  have hd : ∀ b a, a < b → b < p.length → f (p.getD a 0) ≠ f (p.getD b 0) := by
    intro b a hab hbl
    obtain ⟨b', rfl⟩ : ∃ b', b = b' + 1 := ⟨b - 1, by omega⟩
    rw [hp b' hbl]
    exact back_none (hb b' (by omega) (by omega)) (by omega)
  have hl : (t (p.getD (p.length - 1) 0) :: (List.range p.length).map fun i => f (p.getD i 0)).Nodup := by
    rw [List.nodup_cons]
    constructor
    · intro hm
      obtain ⟨a, ha, e⟩ := List.mem_map.1 hm
      have := List.mem_range.1 ha
      exact back_none (hb (p.length - 1) (by omega) (by omega)) (by omega) e
    · rw [List.Nodup, List.pairwise_map]
      refine List.Pairwise.imp_of_mem (R := fun a b : Nat => a < b) (fun {a b} _ hb' hab => hd b a hab (List.mem_range.1 hb')) List.pairwise_lt_range
  have := nodup_small n _ hl fun x hx => by
    rcases List.mem_cons.1 hx with rfl | hx
    · exact ht _ (by omega)
    · obtain ⟨a, ha, rfl⟩ := List.mem_map.1 hx
      exact hf a (List.mem_range.1 ha)
  simp at this
  omega
theorem fol_follows {c : Nat → Nat} {k : Nat} (hm : ∀ x, x < k → c x < m) (hf : ∀ x, x + 1 < k → f (c (x + 1)) = t (c x)) : ∀ k', k' < k → fol m f t (fun x => (c x : Int)) (f (c 0)) (k' + 1) = some (t (c k')) := by
  intro k'
  induction k' with
  | zero =>
    intro h
    simp only [fol, Int.toNat_natCast]
    rw [if_pos ⟨inS_nat (hm 0 h), trivial⟩]
  | succ k' ih =>
    intro h
    have e : fol m f t (fun x => (c x : Int)) (f (c 0)) (k' + 1 + 1) = match fol m f t (fun x => (c x : Int)) (f (c 0)) (k' + 1) with
      | none => none
      | some a => if inS m (c (k' + 1) : Int) = true ∧ f ((c (k' + 1) : Nat) : Int).toNat = a then some (t ((c (k' + 1) : Nat) : Int).toNat) else none := rfl
    rw [e, ih (by omega)]
    simp only [Int.toNat_natCast]
    rw [if_pos ⟨inS_nat (hm _ h), hf k' h⟩]
/-- The first circle of a plan is a circle. -/
theorem circ_ok (hp : Follows f t p) (hm : ∀ i ∈ p, i < m) {j i : Nat} (h : segN f t p p.length 0 = some (j, i)) : circB m f t (fun x => ((circOf f t p).getD x 0 : Nat)) (circOf f t p).length = true := by
  obtain ⟨h1, h2, h3, h4, h5⟩ := segN_some h
  rw [(circOf_some h).2]
  have hget : ∀ x, x < i - j → (circOf f t p).getD x 0 = p.getD (j + x) 0 := fun x hx => circOf_get h hx
  generalize circOf f t p = c at *
  have hcm : ∀ x, x < i - j → c.getD x 0 < m := fun x hx => by
    rw [hget x hx]
    apply hm
    rw [List.getD_eq_getElem?_getD, List.getElem?_eq_getElem (by omega)]
    simp
  have hfo : ∀ x, x + 1 < i - j → f (c.getD (x + 1) 0) = t (c.getD x 0) := fun x hx => by
    rw [hget _ hx, hget _ (by omega)]
    exact hp (j + x) (by omega)
  have hl := lastN_some h4
  have hlast : f (p.getD j 0) = t (p.getD (i - 1) 0) := by simpa using hl.2
  have h6 := fol_follows (m := m) (f := f) (t := t) (c := fun x => c.getD x 0) (k := i - j) hcm hfo (i - j - 1) (by omega)
  rw [show i - j - 1 + 1 = i - j by omega] at h6
  unfold circB
  simp only [Bool.and_eq_true, decide_eq_true_eq]
  refine ⟨⟨by omega, inS_nat (hcm 0 (by omega))⟩, ?_, ?_⟩
  · unfold backB2
    simp only [Int.toNat_natCast]
    rw [h6]
    simp only [decide_eq_true_eq]
    rw [hget _ (by omega), hget _ (by omega), show j + (i - j - 1) = i - 1 by omega, Nat.add_zero]
    exact hlast.symm
  · unfold diffB
    rw [allB_iff]
    intro b hb
    rw [allB_iff]
    intro a ha
    simp only [Int.toNat_natCast, decide_eq_true_eq]
    rw [hget _ hb, hget _ (by omega)]
    obtain ⟨b', rfl⟩ : ∃ b', b = b' + 1 := ⟨b - 1, by omega⟩
    rw [← Nat.add_assoc, hp (j + b') (by omega)]
    exact back_none (h5 (j + b') (by omega) (by omega)) (by omega)
end
section
variable {n m : Nat} {f t : Nat → Nat} {V : Nat → Int}
theorem plan_circ (R : Rot n m f t V) {s : Nat} (hs : s < n) (h : (wrow n m f t V n).getD s 0 ≠ nope) : ∃ j i, segN f t (planL n m f t V n s) (planL n m f t V n s).length 0 = some (j, i) := by
  cases hsg : segN f t (planL n m f t V n s) (planL n m f t V n s).length 0 with
  | some x => exact ⟨x.1, x.2, rfl⟩
  | none =>
    have hn := R.n1
    have hm := planL_lt R n s hs h
    have hg : ∀ i, i < (planL n m f t V n s).length → (planL n m f t V n s).getD i 0 < m := fun i hi => hm _ (by
      rw [List.getD_eq_getElem?_getD, List.getElem?_eq_getElem hi]
      simp)
    have := seg_none_short (n := n) (planL_follows R n s hs h) (by rw [planL_length]; omega) (fun i hi => R.f _ (hg i hi)) (fun i hi => R.t _ (hg i hi)) hsg
    rw [planL_length] at this
    omega
/-- The circle that the program takes is one, if there is one. -/
theorem bestC_ok (R : Rot n m f t V) : ∀ s, s ≤ n → ((bestC n m f t V s).length ≠ 0 → circB m f t (fun x => ((bestC n m f t V s).getD x 0 : Nat)) (bestC n m f t V s).length = true) ∧ ((bestC n m f t V s).length = 0 ↔ ∀ r, r < s → (wrow n m f t V n).getD r 0 = nope) := by
  intro s
  induction s with
  | zero => intro _; exact ⟨fun h => absurd rfl h, fun _ r hr => by omega, fun _ => rfl⟩
  | succ s ih =>
    intro hs
    obtain ⟨h1, h2⟩ := ih (by omega)
    unfold bestC
    split
    · rename_i hno
      refine ⟨h1, h2.trans ⟨fun h r hr => ?_, fun h r hr => h r (by omega)⟩⟩
      by_cases e : r = s
      · subst e; exact hno
      · exact h r (by omega)
    · rename_i hno
      obtain ⟨j, i, hsg⟩ := plan_circ R (show s < n by omega) hno
      have h3 := circ_ok (planL_follows R n s (by omega) hno) (planL_lt R n s (by omega) hno) hsg
      have h4 : (circOf f t (planL n m f t V n s)).length ≠ 0 := by
        have := segN_some hsg
        rw [(circOf_some hsg).2]; omega
      split
      · exact ⟨fun _ => h3, fun h => absurd h h4, fun h => absurd (h s (by omega)) hno⟩
      · rename_i hno2
        refine ⟨h1, fun h => absurd (Or.inl h) hno2, fun h => absurd (h s (by omega)) hno⟩
end
end Go.Proofs.Ytbmfmdlpaidmjaa
