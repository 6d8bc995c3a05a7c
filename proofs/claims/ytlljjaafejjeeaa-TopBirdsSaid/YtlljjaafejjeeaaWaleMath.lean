/- Rotations as plain numbers: rows of greatest worths, first plans, the first circle of a plan, ratios in lowest terms. -/
import Derived.Test.YtlljjaafejjeeaaMap
namespace Go.Proofs.Ytlljjaafejjeeaa

/-- No plan: the least number. -/
def nope : Int := -9223372036854775808
/-- The next row, when the first k changes have been looked at. -/
def relax (n : Nat) (f t : Nat → Nat) (V : Nat → Int) (row : List Int) : Nat → List Int
  | 0 => List.replicate n nope
  | k + 1 => if row.getD (t k) 0 = nope then relax n f t V row k else (relax n f t V row k).set (f k) (max ((relax n f t V row k).getD (f k) 0) (V k + row.getD (t k) 0))
/-- The greatest worths of plans with y changes. -/
def wrow (n m : Nat) (f t : Nat → Nat) (V : Nat → Int) : Nat → List Int
  | 0 => List.replicate n 0
  | y + 1 => relax n f t V (wrow n m f t V y) m
theorem relax_length (n : Nat) (f t : Nat → Nat) (V : Nat → Int) (row : List Int) (k : Nat) : (relax n f t V row k).length = n := by
  induction k with
  | zero => simp [relax]
  | succ k ih => unfold relax; split <;> simp [ih]
theorem wrow_length (n m : Nat) (f t : Nat → Nat) (V : Nat → Int) (y : Nat) : (wrow n m f t V y).length = n := by
  cases y with
  | zero => simp [wrow]
  | succ y => exact relax_length ..
theorem getD_set_i {l : List Int} {i j : Nat} {x : Int} (hi : i < l.length) : (l.set i x).getD j 0 = if j = i then x else l.getD j 0 := by
  simp only [List.getD_eq_getElem?_getD, List.getElem?_set]
  by_cases e : i = j
  · subst e; simp [hi]
  · have : j ≠ i := fun h => e h.symm
    simp [e, this]
theorem getD_rep {n i : Nat} {x : Int} (h : i < n) : (List.replicate n x).getD i 0 = x := by simp [List.getD_eq_getElem?_getD, List.getElem?_replicate, h]
/-- What a rotation's numbers keep to. -/
structure Rot (n m : Nat) (f t : Nat → Nat) (V : Nat → Int) : Prop where
  n1 : 1 ≤ n
  n8 : n ≤ 8
  m40 : m ≤ 40
  f : ∀ i, i < m → f i < n
  t : ∀ i, i < m → t i < n
  v : ∀ i, i < m → -1000 ≤ V i ∧ V i ≤ 1000
/-- A row whose numbers are none, or at most c on both sides. -/
def Small (n : Nat) (c : Int) (row : List Int) : Prop := ∀ s, s < n → row.getD s 0 = nope ∨ (-c ≤ row.getD s 0 ∧ row.getD s 0 ≤ c)
section
variable {n m : Nat} {f t : Nat → Nat} {V : Nat → Int} {row : List Int} {c : Int}
theorem relax_small (R : Rot n m f t V) (hc0 : 0 ≤ c) (hc : c ≤ 1000000) (h : Small n c row) : ∀ k, k ≤ m → Small n (c + 1000) (relax n f t V row k) := by
  intro k
  induction k with
  | zero => intro _ s hs; left; rw [relax, getD_rep hs]
  | succ k ih =>
    intro hk s hs
    have ih := ih (by omega)
    unfold relax
    split
    · exact ih s hs
    · rename_i hne
      rw [getD_set_i (by rw [relax_length]; exact R.f k hk)]
      split
      · have h1 := (h (t k) (R.t k hk)).resolve_left hne
        have h2 := R.v k hk
        have h3 := ih (f k) (R.f k hk)
        unfold nope at h3
        right
        omega
      · exact ih s hs
theorem wrow_small (R : Rot n m f t V) : ∀ y : Nat, y ≤ 900 → Small n (1000 * y) (wrow n m f t V y) := by
  intro y
  induction y with
  | zero => intro _ s hs; right; rw [wrow, getD_rep hs]; omega
  | succ y ih =>
    intro hy
    have := relax_small R (c := 1000 * y) (by omega) (by omega) (ih (by omega)) m (Nat.le_refl _)
    rw [show ((1000 : Int) * ((y + 1 : Nat) : Int)) = 1000 * (y : Int) + 1000 by omega]
    exact this
/-- A number that is there is that of a change. -/
theorem relax_from (R : Rot n m f t V) : ∀ k, k ≤ m → ∀ s, s < n → (relax n f t V row k).getD s 0 ≠ nope → ∃ i, i < k ∧ f i = s ∧ row.getD (t i) 0 ≠ nope ∧ V i + row.getD (t i) 0 = (relax n f t V row k).getD s 0 := by
  intro k
  induction k with
  | zero => intro _ s hs h; rw [relax, getD_rep hs] at h; exact absurd rfl h
  | succ k ih =>
    intro hk s hs
    have ih := ih (by omega) s hs
    unfold relax
    split
    · intro h
      obtain ⟨i, hi, r⟩ := ih h
      exact ⟨i, by omega, r⟩
    · rename_i hne
      rw [getD_set_i (by rw [relax_length]; exact R.f k hk)]
      split
      · rename_i e
        intro h
        rcases Int.le_total ((relax n f t V row k).getD (f k) 0) (V k + row.getD (t k) 0) with h1 | h1
        · exact ⟨k, by omega, e.symm, hne, by omega⟩
        · rw [Int.max_eq_left h1] at h ⊢
          rw [← e] at h ⊢
          obtain ⟨i, hi, r⟩ := ih h
          exact ⟨i, by omega, r⟩
      · intro h
        obtain ⟨i, hi, r⟩ := ih h
        exact ⟨i, by omega, r⟩
theorem wrow_from (R : Rot n m f t V) {y s : Nat} (hs : s < n) (h : (wrow n m f t V (y + 1)).getD s 0 ≠ nope) : ∃ i, i < m ∧ f i = s ∧ (wrow n m f t V y).getD (t i) 0 ≠ nope ∧ V i + (wrow n m f t V y).getD (t i) 0 = (wrow n m f t V (y + 1)).getD s 0 :=
  relax_from R m (Nat.le_refl _) s hs h
end

/-! The first plan that has the greatest worth. -/
def stepB (f t : Nat → Nat) (V : Nat → Int) (now next : List Int) (at_ i : Nat) : Bool :=
  decide (f i = at_) && decide (next.getD (t i) 0 ≠ nope) && decide (V i + next.getD (t i) 0 = now.getD at_ 0)
/-- The first of m that is so. -/
def findN (p : Nat → Bool) : Nat → Nat → Nat
  | 0, k => k
  | d + 1, k => if p k then k else findN p d (k + 1)
theorem findN_spec (p : Nat → Bool) : ∀ (d k i : Nat), k ≤ i → i < k + d → p i = true → (∀ j, k ≤ j → j < i → p j = false) → findN p d k = i := by
  intro d
  induction d with
  | zero => intro k i h1 h2; omega
  | succ d ih =>
    intro k i h1 h2 h3 h4
    unfold findN
    by_cases e : k = i
    · subst e; rw [if_pos h3]
    · rw [if_neg (by rw [h4 k (Nat.le_refl _) (by omega)]; simp)]
      exact ih (k + 1) i (by omega) (by omega) h3 fun j hj1 hj2 => h4 j (by omega) hj2
theorem findN_ok (p : Nat → Bool) : ∀ (d k i : Nat), k ≤ i → i < k + d → p i = true → p (findN p d k) = true ∧ findN p d k < k + d ∧ ∀ j, k ≤ j → j < findN p d k → p j = false := by
  intro d
  induction d with
  | zero => intro k i h1 h2; omega
  | succ d ih =>
    intro k i h1 h2 h3
    unfold findN
    by_cases e : p k = true
    · rw [if_pos e]; exact ⟨e, by omega, fun j h1 h2 => by omega⟩
    · rw [if_neg e]
      have hne : k ≠ i := fun h => e (h ▸ h3)
      obtain ⟨a, b, c⟩ := ih (k + 1) i (by omega) (by omega) h3
      refine ⟨a, by omega, fun j h1 h2 => ?_⟩
      by_cases ej : j = k
      · subst ej; simpa using e
      · exact c j (by omega) h2
def pick (m : Nat) (f t : Nat → Nat) (V : Nat → Int) (now next : List Int) (at_ : Nat) : Nat := findN (stepB f t V now next at_) m 0
def planL (n m : Nat) (f t : Nat → Nat) (V : Nat → Int) : Nat → Nat → List Nat
  | 0, _ => []
  | y + 1, at_ => let i := pick m f t V (wrow n m f t V (y + 1)) (wrow n m f t V y) at_; i :: planL n m f t V y (t i)
section
variable {n m : Nat} {f t : Nat → Nat} {V : Nat → Int}
theorem pick_ok (R : Rot n m f t V) {y s : Nat} (hs : s < n) (h : (wrow n m f t V (y + 1)).getD s 0 ≠ nope) :
    let i := pick m f t V (wrow n m f t V (y + 1)) (wrow n m f t V y) s
    i < m ∧ stepB f t V (wrow n m f t V (y + 1)) (wrow n m f t V y) s i = true ∧ ∀ j, j < i → stepB f t V (wrow n m f t V (y + 1)) (wrow n m f t V y) s j = false := by
  obtain ⟨i, hi, e, h1, h2⟩ := wrow_from R hs h
  dsimp only
  obtain ⟨a, b, c⟩ := findN_ok (stepB f t V (wrow n m f t V (y + 1)) (wrow n m f t V y) s) m 0 i (Nat.zero_le _) (by omega) (by unfold stepB; rw [decide_eq_true e, decide_eq_true h1, decide_eq_true h2]; rfl)
  exact ⟨by unfold pick; omega, a, fun j hj => c j (Nat.zero_le _) hj⟩
theorem stepB_iff {now next : List Int} {s i : Nat} : stepB f t V now next s i = true ↔ f i = s ∧ next.getD (t i) 0 ≠ nope ∧ V i + next.getD (t i) 0 = now.getD s 0 := by
  unfold stepB; simp [and_assoc]
theorem planL_length : ∀ (y s : Nat), (planL n m f t V y s).length = y
  | 0, _ => rfl
  | y + 1, s => by unfold planL; simp [planL_length y]
theorem planL_lt (R : Rot n m f t V) : ∀ (y s : Nat), s < n → (wrow n m f t V y).getD s 0 ≠ nope → ∀ i ∈ planL n m f t V y s, i < m
  | 0, _, _, _ => fun i hi => by cases hi
  | y + 1, s, hs, h => fun i hi => by
    obtain ⟨h1, h2, _⟩ := pick_ok R hs h
    unfold planL at hi
    rcases List.mem_cons.1 hi with rfl | hi
    · exact h1
    · exact planL_lt R y _ (R.t _ h1) (stepB_iff.1 h2).2.1 i hi
end

/-! The first circle in a plan. -/
/-- The last of the first k that is so. -/
def lastN (p : Nat → Bool) : Nat → Option Nat
  | 0 => none
  | k + 1 => if p k then some k else lastN p k
theorem lastN_some {p : Nat → Bool} {k i : Nat} (h : lastN p k = some i) : i < k ∧ p i = true := by
  induction k with
  | zero => cases h
  | succ k ih =>
    unfold lastN at h
    split at h
    · obtain rfl := Option.some.inj h; exact ⟨by omega, by assumption⟩
    · have := ih h; exact ⟨by omega, this.2⟩
theorem lastN_none {p : Nat → Bool} {k : Nat} (h : lastN p k = none) : ∀ i, i < k → p i = false := by
  induction k with
  | zero => intro i hi; omega
  | succ k ih =>
    unfold lastN at h
    split at h
    · cases h
    · intro i hi
      by_cases e : i = k
      · subst e; simp_all
      · exact ih h i (by omega)
/-- Where the To of plan's place i is a From at or ahead of it. -/
def backN (f t : Nat → Nat) (p : List Nat) (i : Nat) : Option Nat := lastN (fun j => decide (f (p.getD j 0) = t (p.getD i 0))) (i + 1)
/-- From and end of the first circle, begun at place i. -/
def segN (f t : Nat → Nat) (p : List Nat) : Nat → Nat → Option (Nat × Nat)
  | 0, _ => none
  | d + 1, i => match backN f t p i with
    | some j => some (j, i + 1)
    | none => segN f t p d (i + 1)
def circOf (f t : Nat → Nat) (p : List Nat) : List Nat := match segN f t p p.length 0 with
  | some (j, i) => (p.drop j).take (i - j)
  | none => []
theorem segN_some {f t : Nat → Nat} {p : List Nat} : ∀ {d k j i : Nat}, segN f t p d k = some (j, i) → j < i ∧ k < i ∧ i ≤ k + d ∧ backN f t p (i - 1) = some j ∧ ∀ x, k ≤ x → x < i - 1 → backN f t p x = none := by
  intro d
  induction d with
  | zero => intro k j i h; cases h
  | succ d ih =>
    intro k j i h
    unfold segN at h
    split at h
    · rename_i j' hb
      simp only [Option.some.injEq, Prod.mk.injEq] at h
      obtain ⟨rfl, rfl⟩ := h
      have := (lastN_some hb).1
      refine ⟨by omega, by omega, by omega, by rw [Nat.add_sub_cancel]; exact hb, fun x h1 h2 => by omega⟩
    · rename_i hb
      obtain ⟨h1, h2, h3, h4, h5⟩ := ih h
      refine ⟨h1, by omega, by omega, h4, fun x hx1 hx2 => ?_⟩
      by_cases e : x = k
      · subst e; exact hb
      · exact h5 x (by omega) hx2
theorem segN_none {f t : Nat → Nat} {p : List Nat} : ∀ {d k : Nat}, segN f t p d k = none → ∀ x, k ≤ x → x < k + d → backN f t p x = none := by
  intro d
  induction d with
  | zero => intro k _ x h1 h2; omega
  | succ d ih =>
    intro k h x h1 h2
    unfold segN at h
    split at h
    · cases h
    · rename_i hb
      by_cases e : x = k
      · subst e; exact hb
      · exact ih h x (by omega) (by omega)
/-- The worth of the first k. -/
def wor (V : Nat → Int) (c : Nat → Nat) : Nat → Int
  | 0 => 0
  | k + 1 => wor V c k + V (c k)
/-- What a list of changes is worth. -/
def worthL (V : Nat → Int) (l : List Nat) : Int := wor V (fun i => l.getD i 0) l.length
theorem circOf_some {f t : Nat → Nat} {p : List Nat} {j i : Nat} (h : segN f t p p.length 0 = some (j, i)) : circOf f t p = (p.drop j).take (i - j) ∧ (circOf f t p).length = i - j := by
  have e : circOf f t p = (p.drop j).take (i - j) := by unfold circOf; rw [h]
  refine ⟨e, ?_⟩
  have := segN_some h
  rw [e, List.length_take, List.length_drop]
  omega
theorem circOf_none {f t : Nat → Nat} {p : List Nat} (h : segN f t p p.length 0 = none) : circOf f t p = [] := by unfold circOf; rw [h]
theorem circOf_mem {f t : Nat → Nat} {p : List Nat} : ∀ x ∈ circOf f t p, x ∈ p := by
  intro x hx
  rcases h : segN f t p p.length 0 with _ | ⟨j, i⟩
  · rw [circOf_none h] at hx; cases hx
  · rw [(circOf_some h).1] at hx
    exact List.mem_of_mem_drop (List.mem_of_mem_take hx)
theorem circOf_le {f t : Nat → Nat} {p : List Nat} : (circOf f t p).length ≤ p.length := by
  rcases h : segN f t p p.length 0 with _ | ⟨j, i⟩
  · rw [circOf_none h]; simp
  · have := segN_some h
    rw [(circOf_some h).2]; omega
theorem circOf_get {f t : Nat → Nat} {p : List Nat} {j i x : Nat} (h : segN f t p p.length 0 = some (j, i)) (hx : x < i - j) : (circOf f t p).getD x 0 = p.getD (j + x) 0 := by
  rw [(circOf_some h).1]
  simp only [List.getD_eq_getElem?_getD]
  rw [List.getElem?_take_of_lt hx, List.getElem?_drop]
/-- The circle that the program takes: the first s states looked at. -/
def bestC (n m : Nat) (f t : Nat → Nat) (V : Nat → Int) : Nat → List Nat
  | 0 => []
  | s + 1 =>
    if (wrow n m f t V n).getD s 0 = nope then bestC n m f t V s
    else if (bestC n m f t V s).length = 0 ∨ worthL V (bestC n m f t V s) * ((circOf f t (planL n m f t V n s)).length : Int) < worthL V (circOf f t (planL n m f t V n s)) * ((bestC n m f t V s).length : Int) then circOf f t (planL n m f t V n s)
    else bestC n m f t V s
theorem bestC_mem {n m : Nat} {f t : Nat → Nat} {V : Nat → Int} (R : Rot n m f t V) : ∀ s, s ≤ n → (∀ x ∈ bestC n m f t V s, x < m) ∧ (bestC n m f t V s).length ≤ n := by
  intro s
  induction s with
  | zero => intro _; exact ⟨fun x hx => (by cases hx), by simp [bestC]⟩
  | succ s ih =>
    intro hs
    have ih := ih (by omega)
    unfold bestC
    split
    · exact ih
    · rename_i hne
      split
      · refine ⟨fun x hx => planL_lt R n s (by omega) hne x (circOf_mem x hx), ?_⟩
        have := circOf_le (f := f) (t := t) (p := planL n m f t V n s)
        rwa [planL_length] at this
      · exact ih
/-- In lowest terms. -/
def lowN (a : Int) (d : Nat) : Int := a.tdiv (Nat.gcd a.natAbs d : Nat)
def lowD (a : Int) (d : Nat) : Int := ((d / Nat.gcd a.natAbs d : Nat) : Int)
/-- The example of the chapter. -/
def exF (i : Nat) : Nat := ([0, 0, 1] : List Nat).getD i 0
def exT (i : Nat) : Nat := ([0, 1, 0] : List Nat).getD i 0
def exV (i : Nat) : Int := ([3, 0, 9] : List Int).getD i 0
theorem ex_circle : bestC 2 3 exF exT exV 2 = [1, 2] := by decide
theorem ex_best : (wrow 2 3 exF exT exV 3).getD 0 0 = 12 := by decide
theorem ex_low : lowN 9 2 = 9 ∧ lowD 9 2 = 2 := by decide
end Go.Proofs.Ytlljjaafejjeeaa
