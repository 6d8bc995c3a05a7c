/- Plain facts on heaps. -/
import Derived.Test.YtelfinjnbncnlaaOwnO
namespace Go.Proofs.Ytelfinjnbncnlaa

def par (i : Nat) : Nat := (i - 1) / 2
theorem par_lt {i : Nat} (h : 0 < i) : par i < i := by unfold par; omega
theorem swap_get {l : List Pt} {i k m : Nat} (hi : i < l.length) (hk : k < l.length) : (swapL l i k).getD m (0, 0) = if m = k then l.getD i (0, 0) else if m = i then l.getD k (0, 0) else l.getD m (0, 0) := by
  unfold swapL
  simp only [List.getD_eq_getElem?_getD, List.getElem?_set, List.length_set]
  by_cases h1 : m = k
  · subst h1; simp [hk]
  · by_cases h2 : m = i
    · subst h2
      have : ¬ k = m := fun e => h1 e.symm
      simp [h1, this, hi]
    · have e1 : ¬ k = m := fun e => h1 e.symm
      have e2 : ¬ i = m := fun e => h2 e.symm
      simp [h1, h2, e1, e2]
theorem swap_y {l : List Pt} {i k m : Nat} (hi : i < l.length) (hk : k < l.length) : hy (swapL l i k) m = if m = k then hy l i else if m = i then hy l k else hy l m := by
  unfold hy
  rw [swap_get hi hk]
  by_cases h1 : m = k
  · simp [h1]
  · by_cases h2 : m = i
    · rw [if_neg h1, if_pos h2, if_neg h1, if_pos h2]
    · simp [h1, h2]
theorem swap_perm {l : List Pt} {i k : Nat} (hi : i < l.length) (hk : k < l.length) : (swapL l i k).Perm l := by
  unfold swapL
  have e1 : l.getD k (0, 0) = l[k] := by rw [List.getD_eq_getElem?_getD, List.getElem?_eq_getElem hk]; rfl
  have e2 : l.getD i (0, 0) = l[i] := by rw [List.getD_eq_getElem?_getD, List.getElem?_eq_getElem hi]; rfl
  rw [e1, e2]
  exact List.set_set_perm hi hk
/-- The first n are a heap. -/
def IsHeap (l : List Pt) (n : Nat) : Prop := ∀ i, 0 < i → i < n → hy l (par i) ≤ hy l i
/-- .. but for j, which may be too small for its place. -/
structure UpInv (l : List Pt) (j n : Nat) : Prop where
  rest : ∀ i, 0 < i → i < n → i ≠ j → hy l (par i) ≤ hy l i
  kids : ∀ c, 0 < c → c < n → par c = j → 0 < j → hy l (par j) ≤ hy l c
theorem UpInv.step {l : List Pt} {j n : Nat} (h : UpInv l j n) (hn : l.length = n) (hj : j < n) (h0 : 0 < j) (hlt : hy l j < hy l (par j)) : UpInv (swapL l (par j) j) (par j) n := by
  have hp := par_lt h0
  have hi : par j < l.length := by omega
  have hk : j < l.length := by omega
  constructor
  · intro i i0 i1 i2
    have hip := par_lt i0
    rw [swap_y hi hk, swap_y hi hk]
    by_cases e1 : i = j
    · subst e1
      rw [if_neg (by omega), if_pos rfl, if_pos rfl]
      omega
    · rw [if_neg e1, if_neg i2]
      by_cases e2 : par i = j
      · rw [if_pos e2]
        exact h.kids i i0 i1 e2 h0
      · rw [if_neg e2]
        by_cases e3 : par i = par j
        · rw [if_pos e3]
          have := h.rest i i0 i1 e1
          rw [e3] at this
          omega
        · rw [if_neg e3]
          exact h.rest i i0 i1 e1
  · intro c c0 c1 c2 p0
    have hpp := par_lt p0
    rw [swap_y hi hk, swap_y hi hk, if_neg (by omega), if_neg (by omega)]
    by_cases e1 : c = j
    · rw [if_pos e1]
      exact h.rest (par j) p0 (by omega) (by omega)
    · have hcp := par_lt c0
      rw [if_neg e1, if_neg (by omega)]
      have a := h.rest c c0 c1 e1
      rw [c2] at a
      have b := h.rest (par j) p0 (by omega) (by omega)
      omega
theorem UpInv.done {l : List Pt} {j n : Nat} (h : UpInv l j n) (hd : j = 0 ∨ hy l (par j) ≤ hy l j) : IsHeap l n := by
  intro i i0 i1
  by_cases e : i = j
  · subst e
    rcases hd with hd | hd
    · omega
    · exact hd
  · exact h.rest i i0 i1 e
theorem up_begin {l : List Pt} {p : Pt} (h : IsHeap l l.length) : UpInv (l ++ [p]) l.length (l.length + 1) := by
  constructor
  · intro i i0 i1 i2
    have hp := par_lt i0
    have := h i i0 (by omega)
    unfold hy at *
    rw [List.getD_eq_getElem?_getD, List.getD_eq_getElem?_getD] at *
    rw [List.getElem?_append_left (by omega), List.getElem?_append_left (by omega)]
    exact this
  · intro c c0 c1 c2 _
    have := par_lt c0
    omega
/-- The least of a heap comes first. -/
theorem heap_least {l : List Pt} {n : Nat} (h : IsHeap l n) : ∀ i, i < n → hy l 0 ≤ hy l i := by
  intro i
  induction i using Nat.strongRecOn with
  | _ i ih =>
    intro hi
    rcases Nat.eq_zero_or_pos i with e | e
    · subst e; exact Int.le_refl _
    · have := par_lt e
      have a := ih (par i) this (by omega)
      have b := h i e hi
      omega
/-- .. but for i, which may be too great for its place. -/
structure DownInv (l : List Pt) (j n : Nat) : Prop where
  rest : ∀ i, 0 < i → i < n → par i ≠ j → hy l (par i) ≤ hy l i
  kids : ∀ c, 0 < c → c < n → par c = j → 0 < j → hy l (par j) ≤ hy l c
theorem DownInv.step {l : List Pt} {j k n : Nat} (h : DownInv l j n) (hn : n ≤ l.length) (k0 : 0 < k) (hk : k < n) (hp : par k = j) (hlt : hy l k < hy l j) (hleast : ∀ c, 0 < c → c < n → par c = j → hy l k ≤ hy l c) : DownInv (swapL l j k) k n := by
  have hjk := par_lt k0
  rw [hp] at hjk
  have hi : j < l.length := by omega
  have hk' : k < l.length := by omega
  constructor
  · intro i i0 i1 i2
    have hip := par_lt i0
    rw [swap_y hi hk', swap_y hi hk', if_neg i2]
    by_cases e2 : par i = j
    · rw [if_pos e2]
      by_cases e1 : i = k
      · rw [if_pos e1]; omega
      · rw [if_neg e1, if_neg (by omega)]
        exact hleast i i0 i1 e2
    · rw [if_neg e2]
      have hik : i ≠ k := fun e => e2 (by rw [e]; exact hp)
      rw [if_neg hik]
      by_cases e3 : i = j
      · rw [if_pos e3]
        subst e3
        exact h.kids k k0 hk hp (by omega)
      · rw [if_neg e3]
        exact h.rest i i0 i1 e2
  · intro c c0 c1 c2 _
    have hcp := par_lt c0
    rw [swap_y hi hk', swap_y hi hk', hp, if_neg (by omega), if_pos rfl, if_neg (by omega), if_neg (by omega)]
    have a := h.rest c c0 c1 (by omega)
    rw [c2] at a
    exact a
theorem DownInv.done {l : List Pt} {j n : Nat} (h : DownInv l j n) (hd : ∀ c, 0 < c → c < n → par c = j → hy l j ≤ hy l c) : IsHeap l n := by
  intro i i0 i1
  by_cases e : par i = j
  · rw [e]; exact hd i i0 i1 e
  · exact h.rest i i0 i1 e
theorem down_begin {l : List Pt} {n : Nat} (h : IsHeap l (n + 1)) (hl : l.length = n + 1) : DownInv (swapL l 0 n) 0 n := by
  constructor
  · intro i i0 i1 i2
    have hip := par_lt i0
    rw [swap_y (by omega) (by omega), swap_y (by omega) (by omega), if_neg (by omega), if_neg i2, if_neg (by omega), if_neg (by omega)]
    exact h i i0 (by omega)
  · intro c _ _ _ h0
    omega
end Go.Proofs.Ytelfinjnbncnlaa
