/- Plain mathematics of pitches: those of a slope in the order of their rises, all up to a slope. -/
import Derived.Test.YtjokpangacahgaaBase
namespace Go.Proofs.Ytjokpangacahgaa

/-- Three numbers that are the sides of a pitch without a common divisor, rising less than it runs. -/
def goodP (a b s : Nat) : Prop := a < b ∧ a * a + b * b = s * s ∧ Nat.gcd a b = 1 ∧ 1 ≤ a
instance (a b s : Nat) : Decidable (goodP a b s) := by unfold goodP; infer_instance
/-- The pitches of a slope with this rise: at most one. -/
def atP (s a : Nat) : List (Nat × Nat × Nat) :=
  match (List.range (s + 1)).find? fun b => decide (goodP a b s) with
  | some b => [(a, b, s)]
  | none => []
def uptoP (s a : Nat) : List (Nat × Nat × Nat) := (List.range a).flatMap (atP s)
def rowP (s : Nat) : List (Nat × Nat × Nat) := uptoP s (s + 1)
def allP (m : Nat) : List (Nat × Nat × Nat) := (List.range (m + 1)).flatMap rowP
theorem sq_lt {a b : Nat} (h : a * a < b * b) : a < b := by
  rcases Nat.lt_or_ge a b with h1 | h1
  · exact h1
  · have := Nat.mul_le_mul h1 h1
    omega
theorem sq_le {a b : Nat} (h : a * a ≤ b * b) : a ≤ b := by
  rcases Nat.lt_or_ge b a with h1 | h1
  · have := Nat.mul_lt_mul_of_lt_of_le h1 (Nat.le_of_lt h1) (by omega)
    omega
  · exact h1
theorem sq_eq {a b : Nat} (h : a * a = b * b) : a = b := Nat.le_antisymm (sq_le (Nat.le_of_eq h)) (sq_le (Nat.le_of_eq h.symm))
theorem sq_mono {a b : Nat} (h : a ≤ b) : a * a ≤ b * b := Nat.mul_le_mul h h
theorem goodP_le {a b s : Nat} (h : goodP a b s) : b ≤ s := sq_le (by have := h.2.1; omega)
theorem atP_some {s a b : Nat} (h : goodP a b s) : atP s a = [(a, b, s)] := by
  unfold atP
  cases hf : (List.range (s + 1)).find? fun b => decide (goodP a b s) with
  | none =>
    have := List.find?_eq_none.1 hf b (List.mem_range.2 (by have := goodP_le h; omega))
    simp [h] at this
  | some c =>
    have h1 : goodP a c s := by simpa using List.find?_some hf
    have : c = b := sq_eq (by have := h.2.1; have := h1.2.1; omega)
    subst this
    rfl
theorem atP_none {s a : Nat} (h : ∀ b, ¬ goodP a b s) : atP s a = [] := by
  unfold atP
  have : (List.range (s + 1)).find? (fun b => decide (goodP a b s)) = none := List.find?_eq_none.2 fun b _ => by simp [h b]
  rw [this]
theorem mem_atP {s a : Nat} {x : Nat × Nat × Nat} (h : x ∈ atP s a) : x.1 = a ∧ x.2.2 = s ∧ goodP a x.2.1 s := by
  by_cases hg : ∃ b, goodP a b s
  · obtain ⟨b, hb⟩ := hg
    rw [atP_some hb] at h
    simp at h
    subst h
    exact ⟨rfl, rfl, hb⟩
  · rw [atP_none fun b hb => hg ⟨b, hb⟩] at h
    simp at h
theorem uptoP_zero (s : Nat) : uptoP s 0 = [] := rfl
theorem uptoP_succ (s a : Nat) : uptoP s (a + 1) = uptoP s a ++ atP s a := by simp [uptoP, List.range_succ, List.flatMap_append]
theorem uptoP_same {s a : Nat} (h : ∀ x, a ≤ x → ∀ y, ¬ goodP x y s) (k : Nat) : uptoP s (a + k) = uptoP s a := by
  induction k with
  | zero => rfl
  | succ k ih => rw [← Nat.add_assoc, uptoP_succ, ih, atP_none (h (a + k) (by omega)), List.append_nil]
theorem uptoP_end {s a : Nat} (h : ∀ x, a ≤ x → ∀ y, ¬ goodP x y s) (ha : a ≤ s + 1) : uptoP s a = rowP s := by
  have := uptoP_same h (s + 1 - a)
  rw [show a + (s + 1 - a) = s + 1 by omega] at this
  exact this.symm
theorem allP_zero : allP 0 = rowP 0 := by simp [allP, List.range_succ]
theorem allP_succ (m : Nat) : allP (m + 1) = allP m ++ rowP (m + 1) := by
  unfold allP
  rw [List.range_succ, List.flatMap_append]
  simp
/-- What both walks keep: the row so far, and that no later pitch runs further. -/
structure InvP (s a b : Nat) : Prop where
  far : ∀ x y, a ≤ x → goodP x y s → y ≤ b
theorem InvP.start (s : Nat) : InvP s 1 s := ⟨fun x y _ h => goodP_le h⟩
theorem uptoP_one (s : Nat) : uptoP s 1 = [] := by
  rw [uptoP_succ, uptoP_zero, List.nil_append, atP_none]
  intro b h
  have h2 := h.2.2.2
  omega
theorem InvP.down {s a b : Nat} (h : InvP s a b) (hgt : s * s < a * a + b * b) : InvP s a (b - 1) := ⟨fun x y hx hg => by
  have h1 := h.far x y hx hg
  have h2 := sq_mono hx
  have h3 := hg.2.1
  have : y < b := sq_lt (by omega)
  omega⟩
theorem InvP.up {s a b : Nat} (h : InvP s a b) : InvP s (a + 1) b := ⟨fun x y hx hg => h.far x y (by omega) hg⟩
theorem InvP.none_lt {s a b : Nat} (h : InvP s a b) (hlt : a * a + b * b < s * s) : atP s a = [] := atP_none fun y hg => by
  have h1 := h.far a y (Nat.le_refl _) hg
  have h2 := sq_mono h1
  have h3 := hg.2.1
  omega
theorem InvP.none_ne {s a b : Nat} (h : a * a + b * b = s * s) (hn : ¬ goodP a b s) : atP s a = [] := atP_none fun y hg => by
  have h3 := hg.2.1
  have : y = b := sq_eq (by omega)
  subst this
  exact hn hg
theorem InvP.fin {s a b : Nat} (h : InvP s a b) (hab : b ≤ a) (ha : a ≤ s + 1) : uptoP s a = rowP s := uptoP_end (fun x hx y hg => by
  have h1 := h.far x y hx hg
  have := hg.1
  omega) ha
theorem allP_four : allP 4 = [] := by decide
theorem allP_five : allP 5 = [(3, 4, 5)] := by decide
theorem mem_rowP {s : Nat} {x : Nat × Nat × Nat} (h : x ∈ rowP s) : x.2.2 = s ∧ goodP x.1 x.2.1 s := by
  unfold rowP uptoP at h
  obtain ⟨a, _, h1⟩ := List.mem_flatMap.1 h
  obtain ⟨e1, e2, e3⟩ := mem_atP h1
  subst e1
  exact ⟨e2, e3⟩
theorem mem_allP {m : Nat} {x : Nat × Nat × Nat} (h : x ∈ allP m) : x.2.2 ≤ m ∧ goodP x.1 x.2.1 x.2.2 := by
  unfold allP at h
  obtain ⟨s, hs, h1⟩ := List.mem_flatMap.1 h
  obtain ⟨e1, e2⟩ := mem_rowP h1
  have := List.mem_range.1 hs
  subst e1
  exact ⟨by omega, e2⟩
theorem allP_add (m k : Nat) : ∃ t, allP (m + k) = allP m ++ t ∧ ∀ x ∈ t, m < x.2.2 := by
  induction k with
  | zero => exact ⟨[], by simp, by simp⟩
  | succ k ih =>
    obtain ⟨t, h1, h2⟩ := ih
    refine ⟨t ++ rowP (m + k + 1), by rw [← Nat.add_assoc, allP_succ, h1, List.append_assoc], fun x hx => ?_⟩
    rcases List.mem_append.1 hx with h | h
    · exact h2 x h
    · have := (mem_rowP h).1
      omega
/-- The order of pitches. -/
def ltP (x y : Nat × Nat × Nat) : Prop := x.2.2 < y.2.2 ∨ x.2.2 = y.2.2 ∧ x.1 < y.1
theorem uptoP_sorted (s a : Nat) : (uptoP s a).Pairwise ltP ∧ ∀ x ∈ uptoP s a, x.1 < a ∧ x.2.2 = s := by
  induction a with
  | zero => exact ⟨List.Pairwise.nil, by simp [uptoP]⟩
  | succ a ih =>
    rw [uptoP_succ]
    constructor
    · refine List.pairwise_append.2 ⟨ih.1, ?_, fun x hx y hy => ?_⟩
      · by_cases hg : ∃ b, goodP a b s
        · obtain ⟨b, hb⟩ := hg
          rw [atP_some hb]
          exact List.pairwise_singleton _ _
        · rw [atP_none fun b hb => hg ⟨b, hb⟩]
          exact List.Pairwise.nil
      · have h1 := ih.2 x hx
        have h2 := mem_atP hy
        right
        omega
    · intro x hx
      rcases List.mem_append.1 hx with h | h
      · have := ih.2 x h
        omega
      · have := mem_atP h
        omega
theorem allP_sorted (m : Nat) : (allP m).Pairwise ltP := by
  induction m with
  | zero => rw [allP_zero]; exact (uptoP_sorted 0 1).1
  | succ m ih =>
    rw [allP_succ]
    refine List.pairwise_append.2 ⟨ih, (uptoP_sorted _ _).1, fun x hx y hy => ?_⟩
    have h1 := (mem_allP hx).1
    have h2 := (mem_rowP hy).1
    left
    omega
theorem atP_len (s a : Nat) : (atP s a).length ≤ 1 := by
  unfold atP
  split <;> simp
theorem uptoP_len (s a : Nat) : (uptoP s a).length ≤ a := by
  induction a with
  | zero => simp [uptoP]
  | succ a ih => rw [uptoP_succ, List.length_append]; have := atP_len s a; omega
theorem allP_len {m : Nat} (h : m ≤ 1000) : (allP m).length ≤ (m + 1) * 1001 := by
  have hall : ∀ k, k ≤ m → (allP k).length ≤ (k + 1) * 1001 := by
    intro k
    induction k with
    | zero => intro _; rw [allP_zero]; have : (rowP 0).length ≤ 1 := uptoP_len 0 1; omega
    | succ k ih =>
      intro hk
      rw [allP_succ, List.length_append]
      have h1 := ih (by omega)
      have h2 := uptoP_len (k + 1) (k + 1 + 1)
      have h3 : (rowP (k + 1)).length ≤ k + 1 + 1 := h2
      omega
  exact hall m (Nat.le_refl _)
/-- What the law asks of the pitches up to a slope, and up to a greater one. -/
theorem allP_facts {few many : Nat} (h : few ≤ many) (i : Nat) (hi : i < (allP many).length) :
    (allP few).length ≤ (allP many).length ∧ (i < (allP few).length → (allP few)[i]? = (allP many)[i]?) ∧ (i < (allP few).length ↔ ((allP many)[i]).2.2 ≤ few) := by
  obtain ⟨t, h1, h2⟩ := allP_add few (many - few)
  rw [show few + (many - few) = many by omega] at h1
  refine ⟨by rw [h1, List.length_append]; omega, fun hlt => ?_, fun hlt => ?_, fun hle => ?_⟩
  · rw [h1, List.getElem?_append_left hlt]
  · have e : (allP many)[i] = (allP few)[i] := by
      have : (allP many)[i]? = (allP few)[i]? := by rw [h1, List.getElem?_append_left hlt]
      rw [List.getElem?_eq_getElem hi, List.getElem?_eq_getElem hlt] at this
      exact Option.some.inj this
    rw [e]
    exact (mem_allP (List.getElem_mem hlt)).1
  · rcases Nat.lt_or_ge i (allP few).length with h3 | h3
    · exact h3
    · exfalso
      have hlen : (allP many).length = (allP few).length + t.length := by rw [h1, List.length_append]
      have h4 : i - (allP few).length < t.length := by omega
      have e : (allP many)[i] = t[i - (allP few).length] := by
        have : (allP many)[i]? = t[i - (allP few).length]? := by rw [h1, List.getElem?_append_right h3]
        rw [List.getElem?_eq_getElem hi, List.getElem?_eq_getElem h4] at this
        exact Option.some.inj this
      have := h2 _ (List.getElem_mem h4)
      rw [e] at hle
      omega
theorem allP_next {m i : Nat} (hi : i + 1 < (allP m).length) : ltP ((allP m)[i]) ((allP m)[i + 1]) := List.pairwise_iff_getElem.1 (allP_sorted m) i (i + 1) (by omega) hi (by omega)
theorem allP_first {m : Nat} (h : 5 ≤ m) : ∃ t, allP m = (3, 4, 5) :: t := by
  obtain ⟨t, h1, _⟩ := allP_add 5 (m - 5)
  rw [show 5 + (m - 5) = m by omega, allP_five] at h1
  exact ⟨t, h1⟩
theorem allP_none {m : Nat} (h : m < 5) : allP m = [] := by
  obtain ⟨t, h1, _⟩ := allP_add m (4 - m)
  rw [show m + (4 - m) = 4 by omega, allP_four] at h1
  exact (List.append_eq_nil_iff.1 h1.symm).1
/-- All pitches of the first so many slopes. -/
def allU (k : Nat) : List (Nat × Nat × Nat) := (List.range k).flatMap rowP
theorem allU_succ (k : Nat) : allU (k + 1) = allU k ++ rowP k := by
  unfold allU
  rw [List.range_succ, List.flatMap_append]
  simp
theorem allU_len {m : Nat} (h : m ≤ 1001) : (allU m).length ≤ m * 1001 := by
  have hall : ∀ k, k ≤ m → (allU k).length ≤ k * 1001 := by
    intro k
    induction k with
    | zero => intro _; exact Nat.le_refl _
    | succ k ih =>
      intro hk
      rw [allU_succ, List.length_append]
      have h1 := ih (by omega)
      have h2 : (rowP k).length ≤ k + 1 := uptoP_len k (k + 1)
      omega
  exact hall m (Nat.le_refl _)
theorem mul_le_mul_nat {a b m n : Nat} (h1 : a ≤ m) (h2 : b ≤ n) : a * b ≤ m * n := Nat.mul_le_mul h1 h2
end Go.Proofs.Ytjokpangacahgaa
