/- The most sightings of a bird from one on: plain facts. -/
import Derived.Test.YtlljjaafejjeeaaKDual
namespace Go.Proofs.Ytlljjaafejjeeaa

/-- The greatest of some of the first k numbers. -/
def maxTo (p : Nat → Bool) (g : Nat → Nat) : Nat → Nat
  | 0 => 0
  | k + 1 => if p k = true then max (maxTo p g k) (g k) else maxTo p g k
def ht (R : Nat → Nat → Bool) (n : Nat) : Nat → Nat → Nat
  | 0, _ => 0
  | f + 1, i => maxTo (R i) (ht R n f) n + 1
theorem maxTo_congr {p : Nat → Bool} {g h : Nat → Nat} : ∀ k, (∀ j, j < k → p j = true → g j = h j) → maxTo p g k = maxTo p h k := by
  intro k
  induction k with
  | zero => intro _; rfl
  | succ k ih =>
    intro e
    have h1 := ih fun j hj hp => e j (by omega) hp
    unfold maxTo
    split
    · rename_i hp
      rw [h1, e k (by omega) hp]
    · exact h1
theorem maxTo_le {p : Nat → Bool} {g : Nat → Nat} {c : Nat} : ∀ k, (∀ j, j < k → p j = true → g j ≤ c) → maxTo p g k ≤ c := by
  intro k
  induction k with
  | zero => intro _; exact Nat.zero_le _
  | succ k ih =>
    intro e
    have h1 := ih fun j hj hp => e j (by omega) hp
    unfold maxTo
    split
    · rename_i hp
      have := e k (by omega) hp
      omega
    · exact h1
theorem maxTo_ge {p : Nat → Bool} {g : Nat → Nat} : ∀ k j, j < k → p j = true → g j ≤ maxTo p g k := by
  intro k
  induction k with
  | zero => intro j hj; omega
  | succ k ih =>
    intro j hj hp
    unfold maxTo
    by_cases e : j = k
    · subst e; rw [if_pos hp]; omega
    · have := ih j (by omega) hp
      split <;> omega
theorem maxTo_at {p : Nat → Bool} {g : Nat → Nat} : ∀ k, maxTo p g k = 0 ∨ ∃ j, j < k ∧ p j = true ∧ g j = maxTo p g k := by
  intro k
  induction k with
  | zero => exact .inl rfl
  | succ k ih =>
    unfold maxTo
    split
    · rename_i hp
      rcases ih with h | ⟨j, a, b, c⟩
      · rw [h]
        rcases Nat.eq_zero_or_pos (g k) with h2 | h2
        · left; omega
        · right; exact ⟨k, by omega, hp, by omega⟩
      · right
        rcases Nat.le_total (maxTo p g k) (g k) with h2 | h2
        · exact ⟨k, by omega, hp, by omega⟩
        · exact ⟨j, by omega, b, by omega⟩
    · rcases ih with h | ⟨j, a, b, c⟩
      · exact .inl h
      · exact .inr ⟨j, by omega, b, c⟩
theorem ht_le (R : Nat → Nat → Bool) (n : Nat) : ∀ f i, ht R n f i ≤ f := by
  intro f
  induction f with
  | zero => intro i; exact Nat.le_refl _
  | succ f ih =>
    intro i
    have := maxTo_le (p := R i) (g := ht R n f) (c := f) n fun j _ _ => ih j
    unfold ht
    omega
/-- What leads on lies lower. -/
structure Down (R : Nat → Nat → Bool) (n : Nat) (μ : Nat → Nat) : Prop where
  lt : ∀ i k, i < n → k < n → R i k = true → μ k < μ i
  le : ∀ i, i < n → μ i < n
section
variable {R : Nat → Nat → Bool} {n : Nat} {μ : Nat → Nat}
theorem ht_stable (D : Down R n μ) : ∀ m i f f', i < n → μ i < m → μ i < f → μ i < f' → ht R n f i = ht R n f' i := by
  intro m
  induction m with
  | zero => intro i f f' _ h; omega
  | succ m ih =>
    intro i f f' hi hm hf hf'
    obtain ⟨f, rfl⟩ : ∃ g, f = g + 1 := ⟨f - 1, by omega⟩
    obtain ⟨f', rfl⟩ : ∃ g, f' = g + 1 := ⟨f' - 1, by omega⟩
    unfold ht
    rw [maxTo_congr n fun j hj hp => ih j f f' hj (by have := D.lt i j hi hj hp; omega) (by have := D.lt i j hi hj hp; omega) (by have := D.lt i j hi hj hp; omega)]
/-- The most sightings of a bird from one on. -/
def hgt (R : Nat → Nat → Bool) (n i : Nat) : Nat := ht R n n i
theorem hgt_eq (D : Down R n μ) {i : Nat} (hi : i < n) : hgt R n i = maxTo (R i) (hgt R n) n + 1 := by
  unfold hgt
  rw [ht_stable D (μ i + 1) i n (n + 1) hi (by omega) (D.le i hi) (by have := D.le i hi; omega)]
  rfl
theorem hgt_le (R : Nat → Nat → Bool) (n i : Nat) : hgt R n i ≤ n := ht_le R n n i
theorem hgt_lt (D : Down R n μ) {i k : Nat} (hi : i < n) (hk : k < n) (h : R i k = true) : hgt R n k < hgt R n i := by
  rw [hgt_eq D hi]
  have := maxTo_ge (p := R i) (g := hgt R n) n k hk h
  omega
theorem hgt_pos (D : Down R n μ) {i : Nat} (hi : i < n) : 1 ≤ hgt R n i := by rw [hgt_eq D hi]; omega
theorem hgt_next (D : Down R n μ) {i : Nat} (hi : i < n) (h : 2 ≤ hgt R n i) : ∃ k, k < n ∧ R i k = true ∧ hgt R n k + 1 = hgt R n i := by
  have e := hgt_eq D hi
  rcases maxTo_at (p := R i) (g := hgt R n) n with h2 | ⟨j, a, b, c⟩
  · omega
  · exact ⟨j, a, b, by omega⟩
end
/-- The greatest of n numbers. -/
def grt (g : Nat → Nat) (n : Nat) : Nat := maxTo (fun _ => true) g n
/-- The first of n that is so. -/
def fstN (p : Nat → Bool) (n : Nat) : Option Nat := (List.range n).find? p
theorem fstN_some {p : Nat → Bool} {n i : Nat} (hi : i < n) (h : p i = true) (hf : ∀ j, j < i → p j = false) : fstN p n = some i := by
  unfold fstN
  cases e : (List.range n).find? p with
  | none =>
    have := List.find?_eq_none.1 e i (by simpa using hi)
    exact absurd h this
  | some k =>
    have h1 := List.find?_some e
    have h2 : k < n := by simpa using List.mem_of_find?_eq_some e
    obtain ⟨_, u1, u2, h3, h4⟩ := List.find?_eq_some_iff_append.1 e
    rcases Nat.lt_trichotomy k i with h5 | h5 | h5
    · rw [hf k h5] at h1; cases h1
    · rw [h5]
    · have hlt : (List.range n).Pairwise (· < ·) := List.pairwise_lt_range
      rw [h3] at hlt
      have hm : i ∈ List.range n := by simpa using hi
      rw [h3] at hm
      rcases List.mem_append.1 hm with hm | hm
      · have := h4 i hm
        simp [h] at this
      · rcases List.mem_cons.1 hm with hm | hm
        · omega
        · have := (List.pairwise_cons.1 (List.pairwise_append.1 hlt).2.1).1 i hm
          omega
theorem fstN_none {p : Nat → Bool} {n : Nat} (hf : ∀ j, j < n → p j = false) : fstN p n = none := by
  unfold fstN
  rw [List.find?_eq_none]
  intro x hx
  rw [hf x (by simpa using hx)]
  simp
theorem fstN_spec {p : Nat → Bool} {n i : Nat} (h : fstN p n = some i) : i < n ∧ p i = true :=
  ⟨by simpa using List.mem_of_find?_eq_some h, List.find?_some h⟩
/-- May a sighting come behind the last one? -/
def behind (L : Nat → Nat → Bool) (l : List Nat) (i : Nat) : Bool := match l.getLast? with
  | none => true
  | some j => L j i
/-- The first bird of so many sightings, behind a list. -/
def longL (L : Nat → Nat → Bool) (n : Nat) (H : Nat → Nat) : Nat → List Nat → List Nat
  | 0, l => l
  | d + 1, l => match fstN (fun i => decide (H i = d + 1) && behind L l i) n with
    | none => longL L n H d l
    | some i => longL L n H d (l ++ [i])
def longM (L : Nat → Nat → Bool) (n : Nat) (H : Nat → Nat) : List Nat := longL L n H (grt H n) []
theorem longL_length (L : Nat → Nat → Bool) (n : Nat) (H : Nat → Nat) : ∀ d l, (longL L n H d l).length ≤ l.length + d := by
  intro d
  induction d with
  | zero => intro l; simp [longL]
  | succ d ih =>
    intro l
    unfold longL
    split
    · have := ih l; omega
    · rename_i i _
      have := ih (l ++ [i])
      simp only [List.length_append, List.length_cons, List.length_nil] at this
      omega
end Go.Proofs.Ytlljjaafejjeeaa
